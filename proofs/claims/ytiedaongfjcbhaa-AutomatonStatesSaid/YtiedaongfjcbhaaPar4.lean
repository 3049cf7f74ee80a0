/- Package table: what a rule prints, read. -/
import Derived.Test.YtiedaongfjcbhaaPar3
namespace Go.Proofs.Ytiedaongfjcbhaa
open Go.RowKit

def hexD : List UInt8 := [48, 49, 50, 51, 52, 53, 54, 55, 56, 57, 97, 98, 99, 100, 101, 102]
def hexV (l : List UInt8) (i : Nat) : Int := Lib.indexByte hexD (l.getD i 0)
def hexOk (l : List UInt8) (i : Nat) : Bool := decide (0 ≤ hexV l (2 * i)) && decide (0 ≤ hexV l (2 * i + 1))
def hexW (l : List UInt8) (i : Nat) : Int := hexV l (2 * i) * 16 + hexV l (2 * i + 1)
/-- The bytes that a field spells in pairs of digits. -/
def prOf (l : List UInt8) : Option (List Int) := if l = [46] then some [] else if l = [] then none else if l.length % 2 = 1 then none else if (List.range (l.length / 2)).all (hexOk l) then some ((List.range (l.length / 2)).map (hexW l)) else none
def Fds.prL (s : Fds) : List Int := (prOf s.word).getD []
def Fds.prS (s : Fds) : Fds := s.next.bad (prOf s.word).isNone
theorem indexByte_lt (l : List UInt8) (c : UInt8) : Lib.indexByte l c < l.length := by
  cases hi : decide (Lib.indexByte l c = -1) with
  | true => have := of_decide_eq_true hi; omega
  | false =>
    have hi := of_decide_eq_false hi
    obtain ⟨i, hi2⟩ : ∃ i : Nat, Lib.indexByte l c = i := ⟨(Lib.indexByte l c).toNat, by have := Lib.indexByte_ge l c; omega⟩
    have := (cutAt_some hi2).1; omega
theorem hexV_bd (l : List UInt8) (i : Nat) : -1 ≤ hexV l i ∧ hexV l i < 16 := ⟨Lib.indexByte_ge _ _, indexByte_lt hexD _⟩
theorem strU_at (l : List UInt8) (i : Nat) (h : i < (strU l).size) : (strU l)[i]'h = l.getD i 0 := by
  have h2 : i < l.length := by rw [strU_size] at h; exact h
  rw [List.getD_eq_getElem?_getD, List.getElem?_eq_getElem h2, Option.getD_some]
  rfl
theorem hex_call (l : List UInt8) (i : Nat) (h : i < (strU l).size) : Lib.indexByte (⟨#[48, 49, 50, 51, 52, 53, 54, 55, 56, 57, 97, 98, 99, 100, 101, 102]⟩ : ByteArray).data.toList (((((strU l)[i]'h).toNat : Nat) : Int)).toNat.toUInt8 = hexV l i := by
  rw [strU_at l i h, Int.toNat_natCast]
  unfold hexV hexD
  simp
theorem true_step {p : Nat → Bool} {j : Nat} (h : ∀ i, i < j → p i = true) (hp : p j = true) : ∀ i, i < j + 1 → p i = true := fun i hi => by
  rcases Nat.lt_or_ge i j with g | g
  · exact h i g
  · obtain rfl : i = j := by omega
    exact hp
def hexF (l : List UInt8) (j i : Nat) : Int := if i < j then hexW l i else 0
set_option maxRecDepth 10000 in
theorem or_hex (a b : Int) (h0 : 0 ≤ a) (h1 : a < 16) (h2 : 0 ≤ b) (h3 : b < 16) : bits .or .i64 (a * 16) b = a * 16 + b := by
  have h := allB2_out (n := 16) (m := 16) (p := fun a b => decide (bits .or .i64 ((a : Int) * 16) (b : Int) = (a : Int) * 16 + (b : Int))) (by decide +kernel) a.toNat b.toNat (by omega) (by omega)
  rw [show ((a.toNat : Nat) : Int) = a from by omega, show ((b.toNat : Nat) : Int) = b from by omega] at h
  exact of_decide_eq_true h
end Go.Proofs.Ytiedaongfjcbhaa
