/- Package cell: Valid, Parse, Dots. -/
import Derived.Test.YtiedaongfjcbhaaBase
namespace Go.Proofs.Ytiedaongfjcbhaa
open Go.RowKit
def parseGo : List Nat → Nat → Nat → Option Nat
  | [], _, c => some c
  | b :: r, last, c => if b ≤ last ∨ 54 < b then none else parseGo r b (c ||| 2 ^ (b - 49))
def parse (l : List Nat) : Option Nat := if l = [48] then some 0 else if l = [] then none else parseGo l 48 0
def paC (l : List Nat) : Int := ((parse l).getD 0 : Nat)
def paE (l : List Nat) : Int := if (parse l).isSome then 0 else 10
theorem or_step (c x : Nat) (hc : c < 64) (h1 : 49 ≤ x) (h2 : x ≤ 54) :
    bits .or .u8 (c : Int) ((2 : Int) ^ (x - 49) % 256) = ((c ||| 2 ^ (x - 49) : Nat) : Int) ∧ c ||| 2 ^ (x - 49) < 64 := by
  have h := allB2_out (n := 64) (m := 6) (p := fun c k => decide (bits .or .u8 (c : Int) ((2 : Int) ^ k % 256) = ((c ||| 2 ^ k : Nat) : Int)) && decide (c ||| 2 ^ k < 64)) (by decide +kernel) c (x - 49) hc (by omega)
  simpa using h
theorem parseGo_step (l : List Nat) (j x last c : Nat) (h : l[j]? = some x) (hl : ¬ x ≤ last) (h2 : x ≤ 54) : parseGo (l.drop j) last c = parseGo (l.drop (j + 1)) x (c ||| 2 ^ (x - 49)) := by
  have hj : j < l.length := by
    rcases Nat.lt_or_ge j l.length with g | g
    · exact g
    · rw [List.getElem?_eq_none g] at h; cases h
  rw [List.drop_eq_getElem_cons hj]
  rw [List.getElem?_eq_getElem hj] at h
  injection h with h
  rw [h, parseGo, if_neg (by omega)]
theorem parseGo_stop (l : List Nat) (j x last c : Nat) (h : l[j]? = some x) (hl : x ≤ last ∨ 54 < x) : parseGo (l.drop j) last c = none := by
  have hj : j < l.length := by
    rcases Nat.lt_or_ge j l.length with g | g
    · exact g
    · rw [List.getElem?_eq_none g] at h; cases h
  rw [List.drop_eq_getElem_cons hj]
  rw [List.getElem?_eq_getElem hj] at h
  injection h with h
  rw [h, parseGo, if_pos hl]
/-- The digits of the first k dots of c. -/
def pre (c : Nat) : Nat → List Int
  | 0 => []
  | k + 1 => pre c k ++ (if c / 2 ^ k % 2 = 1 then [((49 + k : Nat) : Int)] else [])
def dotsText (c : Nat) : List Int := if pre c 6 = [] then [48] else pre c 6
theorem pre_len (c k : Nat) : (pre c k).length ≤ k := by
  induction k with
  | zero => simp [pre]
  | succ k ih => unfold pre; split <;> simp <;> omega
set_option maxRecDepth 10000 in
theorem bit_yes (c k : Nat) (hc : c < 64) (hk : k < 6) (h : c / 2 ^ k % 2 = 1) : (bits .and .u8 ((c : Int) / 2 ^ k) 1 == 1) = true := by
  have := allB2_out (n := 64) (m := 6) (p := fun c k => decide (c / 2 ^ k % 2 = 1) == (bits .and .u8 ((c : Int) / 2 ^ k) 1 == 1)) (by decide +kernel) c k hc hk
  simp only [h, decide_true] at this
  exact (eq_of_beq this).symm
set_option maxRecDepth 10000 in
theorem bit_no (c k : Nat) (hc : c < 64) (hk : k < 6) (h : ¬ c / 2 ^ k % 2 = 1) : (bits .and .u8 ((c : Int) / 2 ^ k) 1 == 1) = false := by
  have := allB2_out (n := 64) (m := 6) (p := fun c k => decide (c / 2 ^ k % 2 = 1) == (bits .and .u8 ((c : Int) / 2 ^ k) 1 == 1)) (by decide +kernel) c k hc hk
  simp only [h, decide_false] at this
  exact (eq_of_beq this).symm
end Go.Proofs.Ytiedaongfjcbhaa
