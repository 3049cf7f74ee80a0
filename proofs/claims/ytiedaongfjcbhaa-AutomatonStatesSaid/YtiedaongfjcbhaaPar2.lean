/- Package table: the reader's fields: next, word, number, complete, modes. -/
import Derived.Test.YtiedaongfjcbhaaPar1
namespace Go.Proofs.Ytiedaongfjcbhaa
open Go.RowKit

/-- A reader of fields: what is left, whether it was used up, whether a field was wrong. -/
structure Fds where
  rest : List UInt8
  used : Bool
  wrong : Bool
def Fds.word (s : Fds) : List UInt8 := pieceL 32 s.rest
def Fds.next (s : Fds) : Fds := ⟨restL 32 s.rest, usedB 32 s.rest s.used, s.wrong⟩
def Fds.bad (s : Fds) (b : Bool) : Fds := ⟨s.rest, s.used, s.wrong || b⟩
theorem restL_len (c : UInt8) (l : List UInt8) : (restL c l).length ≤ l.length ∧ (pieceL c l).length ≤ l.length := by
  unfold restL pieceL
  cases hi : decide (Lib.indexByte l c = -1) with
  | true =>
    rw [cutAt_none (of_decide_eq_true hi)]; simp
  | false =>
    have hi := of_decide_eq_false hi
    obtain ⟨i, hi2⟩ : ∃ i : Nat, Lib.indexByte l c = i := ⟨(Lib.indexByte l c).toNat, by have := Lib.indexByte_ge l c; omega⟩
    rw [(cutAt_some hi2).2]; simp; omega
theorem Fds.bad_no (s : Fds) : s.bad false = s := by cases s; simp [Fds.bad]
/-- The number that a field spells, if it is written as it should be. -/
def numF (most : Int) (l : List UInt8) : Option Int := match atoiE l with
  | some n => if 0 ≤ n ∧ n ≤ most ∧ Lib.itoa n = l then some n else none
  | none => none
def Fds.num (s : Fds) (most : Int) : Int := (numF most s.word).getD 0
def Fds.numS (s : Fds) (most : Int) : Fds := s.next.bad (numF most s.word).isNone
theorem numF_bd {most n : Int} {l : List UInt8} (h : numF most l = some n) : 0 ≤ n ∧ n ≤ most := by
  unfold numF at h
  split at h
  · split at h
    · rename_i h2; injection h with h; omega
    · cases h
  · cases h
theorem num_bd (s : Fds) (most : Int) (h : 0 ≤ most) : 0 ≤ s.num most ∧ s.num most ≤ most := by
  unfold Fds.num
  cases hn : numF most s.word with
  | none => exact ⟨Int.le_refl _, h⟩
  | some n => exact numF_bd hn
def modesB : ByteArray := ⟨#[109, 111, 100, 101, 115]⟩
def modesW : List UInt8 := [109, 111, 100, 101, 115]
def acceptW : List UInt8 := [97, 99, 99, 101, 112, 116]
def Fds.wordS (s : Fds) (x : List UInt8) : Fds := s.next.bad (!eqB s.word x)
def Fds.m1 (s : Fds) : Fds := s.wordS modesW
def Fds.m2 (s : Fds) : Fds := s.m1.numS 999
def Fds.m3 (s : Fds) : Fds := s.m2.wordS acceptW
def Fds.m4 (s : Fds) : Fds := s.m3.numS 255
theorem wordS_len (s : Fds) (x : List UInt8) : (s.wordS x).rest.length ≤ s.rest.length := (restL_len 32 s.rest).1
theorem numS_len (s : Fds) (m : Int) : (s.numS m).rest.length ≤ s.rest.length := (restL_len 32 s.rest).1
end Go.Proofs.Ytiedaongfjcbhaa
