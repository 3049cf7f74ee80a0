/- The reference of package cell: Has, Dots. -/
import Derived.Test.YtiedaongfjcbhabGreatDoorCellD
namespace Go.Proofs.YtiedaongfjcbhabGreatDoor
open Go.RowKit

def hasB (c k : Nat) : Bool := decide (c / 2 ^ k % 2 = 1)
theorem has_bits (c k : Nat) (hc : c < 64) (hk : k < 6) : (bits .and .u8 ((c : Int) / 2 ^ k) 1 == 1) = hasB c k := by
  unfold hasB
  by_cases h : c / 2 ^ k % 2 = 1
  · rw [bit_yes c k hc hk h]; simp [h]
  · rw [bit_no c k hc hk h]; simp [h]
set_option maxHeartbeats 400000 in
theorem has_any (c k : Nat) (hc : c < 64) (hk : k < 6) (w : World) :
    Calls Tryz.prog 49 #[.int .u8 c, .int .i64 ((k : Int) + 1)] w fun e w' => e = .returned (.bool (hasB c k)) ∧ w = w' := by
  have h := Lib.hid (has_bits c k hc hk)
  go_enter Tryz.func49, Tryz.ntmps49
  go_wp2
  go_ret
  exact ⟨ret_bool h.out, rfl⟩
def digB : ByteArray := ⟨#[48, 49, 50, 51, 52, 53, 54]⟩
theorem dig_step (xs : List Int) (k : Nat) (hk : k < 6) : strOf xs ++ digB.extract (k + 1) (k + 2) = strOf (xs ++ [((49 + k : Nat) : Int)]) := by
  have h : digB.extract (k + 1) (k + 2) = strOf [((49 + k : Nat) : Int)] := by
    have := allB_out (n := 6) (p := fun k => decide (digB.extract (k + 1) (k + 2) = strOf [((49 + k : Nat) : Int)])) (by decide +kernel) k hk
    exact of_decide_eq_true this
  rw [h]
  apply ByteArray.ext
  simp [strOf, ByteArray.data_append]
set_option maxHeartbeats 400000 in
theorem rDots_any (c : Nat) (hc : c < 64) (w : World) :
    Calls Tryz.prog 26 #[.int .u8 c] w fun e w' => e = .returned (.string (strOf (dotsText c))) ∧ w = w' := by
  go_enter Tryz.func26, Tryz.ntmps26
  go_wp2
  go_loop [3, 5] (fun o i => ∃ k : Nat, k ≤ 6 ∧ i = .int .i64 ((k : Int) + 1) ∧ o = .string (strOf (pre c k))) (fun _ i => 7 - (intOf i).toNat)
  case atStart => exact ⟨0, by omega, rfl, rfl⟩
  case round =>
    obtain ⟨k, hk, rfl, rfl⟩ := hrel
    by_cases hlt : k < 6
    · go_wp2_with fail
      refine (has_any c k hc hlt _).mono ?_
      rintro e _ ⟨rfl, rfl⟩
      by_cases hb : c / 2 ^ k % 2 = 1
      · have hP : Hid (pre c (k + 1) = pre c k ++ [((49 + k : Nat) : Int)]) := by unfold Hid; rw [pre, if_pos hb]
        have hh : hasB c k = true := by simp [hasB, hb]
        rw [hh]
        have hst := Lib.hid (dig_step (pre c k) k hlt)
        have hsz : (strOf (pre c k)).size ≤ 6 := by rw [strOf_size]; have := pre_len c k; omega
        clear hb hh
        generalize pre c k = xs at *
        go_wp2
        exact ⟨⟨k + 1, by omega, by go_num, by rw [hP.out, ← hst.out]; rfl⟩, by simp [intOf]; omega⟩
      · have hP : Hid (pre c (k + 1) = pre c k) := by unfold Hid; rw [pre, if_neg hb, List.append_nil]
        have hh : hasB c k = false := by simp [hasB, hb]
        rw [hh]
        clear hb hh
        go_wp2
        exact ⟨⟨k + 1, by omega, by go_num, by rw [hP.out]⟩, by simp [intOf]; omega⟩
    · have : k = 6 := by omega
      subst this
      by_cases he : pre c 6 = []
      · have HE := Lib.hid he
        have hem : (strOf (pre c 6)).toList.isEmpty = true := by rw [strOf_empty, he]; rfl
        clear he
        go_wp2
        go_ret
        exact ⟨by rw [dotsText, if_pos HE.out]; rfl, rfl⟩
      · have HE := Lib.hid he
        have hem : (strOf (pre c 6)).toList.isEmpty = false := by rw [strOf_empty]; simpa using he
        clear he
        go_wp2
        go_ret
        exact ⟨by rw [dotsText, if_neg HE.out]; rfl, rfl⟩
theorem parse_text (c : Nat) (hc : c < 64) : parse (bytes (strOf (dotsText c))) = some c := by
  have := allB_out (n := 64) (p := fun c => parse (bytes (strOf (dotsText c))) == some c) (by decide +kernel) c hc
  simpa using this
end Go.Proofs.YtiedaongfjcbhabGreatDoor
