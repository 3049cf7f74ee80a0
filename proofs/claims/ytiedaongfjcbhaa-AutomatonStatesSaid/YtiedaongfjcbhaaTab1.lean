/- Package table: classes and texts; the reference's. -/
import Derived.Test.YtiedaongfjcbhaaBase
namespace Go.Proofs.Ytiedaongfjcbhaa
open Go.RowKit

/-- The class of a byte. -/
def clsI (b : Int) : Int := if 97 ≤ b % 128 ∧ b % 128 ≤ 122 then 1 else if 65 ≤ b % 128 ∧ b % 128 ≤ 90 then 2 else if 48 ≤ b % 128 ∧ b % 128 ≤ 57 then 3 else if b % 128 = 32 then 4 else 5
def isChI (b : Int) : Bool := decide (32 ≤ b % 128) && decide (b % 128 ≤ 126)
def isSpI (b : Int) : Bool := decide (b % 128 = 32)
def isCh (b : Nat) : Bool := isChI b
def isSp (b : Nat) : Bool := isSpI b
set_option maxRecDepth 10000 in
theorem pl_byte (b : Int) (h0 : 0 ≤ b) (hb : b < 256) : bits .and .u8 b 127 = b % 128 := by
  have h := allB_int (n := 256) (p := fun b => decide (bits .and .u8 (b : Int) 127 = (b : Int) % 128)) (by decide +kernel) b h0 hb
  rw [show ((b.toNat : Nat) : Int) = b from by omega] at h
  exact of_decide_eq_true h
theorem cls_of {b c : Int} (h : clsI b = c) : Ending.returned (.int .i64 c) = .returned (.int .i64 (clsI b)) := by rw [h]

theorem class_any (b : Int) (h0 : 0 ≤ b) (hb : b < 256) (w : World) :
    Calls Try.prog 49 #[.int .u8 b] w fun e w' => e = .returned (.int .i64 (clsI b)) ∧ w = w' := by
  have hp := pl_byte b h0 hb
  go_enter Try.func49, Try.ntmps49
  go_wp2
  all_goals
    go_ret
    exact ⟨cls_of (by unfold clsI; (try simp only [beq_iff_eq, beq_eq_false_iff_ne, ne_eq] at *); (repeat' split) <;> omega), rfl⟩
theorem rClass_any (b : Int) (h0 : 0 ≤ b) (hb : b < 256) (w : World) :
    Calls Try.prog 27 #[.int .u8 b] w fun e w' => e = .returned (.int .i64 (clsI b)) ∧ w = w' := by
  have hp := pl_byte b h0 hb
  go_enter Try.func27, Try.ntmps27
  go_wp2
  all_goals
    go_ret
    exact ⟨cls_of (by unfold clsI; (try simp only [beq_iff_eq, beq_eq_false_iff_ne, ne_eq] at *); (repeat' split) <;> omega), rfl⟩
theorem rCharacter_any (b : Int) (h0 : 0 ≤ b) (hb : b < 256) (w : World) :
    Calls Try.prog 51 #[.int .u8 b] w fun e w' => e = .returned (.bool (isChI b)) ∧ w = w' := by
  have hp := pl_byte b h0 hb
  go_enter Try.func51, Try.ntmps51
  go_wp2
  all_goals
    go_ret
    exact ⟨ret_bool (by unfold isChI; first | (simp [*]; done) | (simp; omega)), rfl⟩
theorem rSpace_any (b : Int) (h0 : 0 ≤ b) (hb : b < 256) (w : World) :
    Calls Try.prog 30 #[.int .u8 b] w fun e w' => e = .returned (.bool (isSpI b)) ∧ w = w' := by
  have hp := pl_byte b h0 hb
  go_enter Try.func30, Try.ntmps30
  go_wp2
  all_goals
    go_ret
    exact ⟨ret_bool (by unfold isSpI; rw [Bool.eq_iff_iff]; simp), rfl⟩
theorem cls_sp (b : Int) : (clsI b == 4) = isSpI b := by
  unfold clsI isSpI
  by_cases h : b % 128 = 32
  · simp [h]
  · rw [show decide (b % 128 = 32) = false from by simp [h], if_neg h]; (repeat' split) <;> rfl
end Go.Proofs.Ytiedaongfjcbhaa
