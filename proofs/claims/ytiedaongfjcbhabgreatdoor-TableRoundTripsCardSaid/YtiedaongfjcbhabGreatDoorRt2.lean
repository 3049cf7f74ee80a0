/- The reference's Decimal. -/
import Derived.Test.YtiedaongfjcbhabGreatDoorRt1
namespace Go.Proofs.YtiedaongfjcbhabGreatDoor
open Go.RowKit

theorem dig_at (d : Nat) (h : d < 10) : (⟨#[48, 49, 50, 51, 52, 53, 54, 55, 56, 57]⟩ : ByteArray).extract d (d + 1) = strU [UInt8.ofNat (48 + d)] := by
  have := allB_out (n := 10) (p := fun d => decide ((⟨#[48, 49, 50, 51, 52, 53, 54, 55, 56, 57]⟩ : ByteArray).extract d (d + 1) = strU [UInt8.ofNat (48 + d)])) (by decide +kernel) d h
  exact of_decide_eq_true this
theorem dd_small {n : Nat} (h : n < 10) : strU [UInt8.ofNat (48 + n)] = strU (ddL n) := by unfold ddL; rw [if_pos h]
theorem dd_big {n : Nat} (h : ¬ n < 10) (h2 : n < 1000) : strU (ddL (n / 10)) ++ strU [UInt8.ofNat (48 + n % 10)] = strU (ddL n) := by
  have := allB_out (n := 1000) (p := fun n => decide (n < 10) || decide (ddL (n / 10) ++ [UInt8.ofNat (48 + n % 10)] = ddL n)) (by decide +kernel) n h2
  rw [Bool.or_eq_true] at this
  rcases this with e | e
  · exact absurd (of_decide_eq_true e) h
  · rw [strU_app, of_decide_eq_true e]
theorem dd_len {n : Nat} : (strU (ddL n)).size ≤ 3 := by
  rw [strU_size]; unfold ddL; split
  · simp
  · split <;> simp
set_option maxRecDepth 10000 in
theorem decimal_any : ∀ (k n : Nat) (w : World), n ≤ k → n < 1000 →
    Calls Tryz.prog 25 #[.int .i64 n] w fun e w' => e = .returned (.string (strU (ddL n))) ∧ w = w' := by
  intro k
  induction k with
  | zero =>
    intro n w hk hn
    obtain rfl : n = 0 := by omega
    go_enter Tryz.func25, Tryz.ntmps25
    go_wp2
    go_ret
    exact ⟨rfl, rfl⟩
  | succ k ih =>
    intro n w hk hn
    obtain ⟨d, hd⟩ : ∃ d, n % 10 = d := ⟨_, rfl⟩
    have hm : (n : Int) % 10 = (d : Int) := by omega
    have hd0 : d < 10 := by omega
    have he := dig_at d hd0
    have hd1 : (0 : Int) ≤ (d : Int) := by omega
    obtain ⟨t, ht⟩ : ∃ t, strU [UInt8.ofNat (48 + d)] = t := ⟨_, rfl⟩
    have hts : t.size = 1 := by rw [← ht, strU_size]; rfl
    by_cases hs : n < 10
    · obtain rfl : n = d := by omega
      have HF := Lib.hid (dd_small hs)
      have hs' : ¬ (10 : Int) ≤ (n : Int) := by omega
      rw [ht] at he HF
      clear hd ht
      go_enter Tryz.func25, Tryz.ntmps25
      go_wp2
      go_ret
      exact ⟨by rw [← HF.out]; rfl, rfl⟩
    · have HF := Lib.hid (dd_big hs hn)
      rw [hd] at HF
      obtain ⟨q, hq⟩ : ∃ q, n / 10 = q := ⟨_, rfl⟩
      rw [hq] at HF
      rw [ht] at he HF
      have hq2 : (n : Int) / 10 = (q : Int) := by omega
      have hq3 := dd_len (n := q)
      have hs' : (10 : Int) ≤ (n : Int) := by omega
      have hqk : q ≤ k := by omega
      have hqn : q < 1000 := by omega
      have z0 : ¬ 9223372036854775807 < (strU (ddL q)).size + t.size := by omega
      clear hd hq ht
      go_enter Tryz.func25, Tryz.ntmps25
      go_wp2_with (go_at_call 25; refine (ih q _ hqk hqn).mono ?_; rintro e w' ⟨rfl, rfl⟩)
      go_ret
      exact ⟨by rw [← HF.out]; rfl, rfl⟩
end Go.Proofs.YtiedaongfjcbhabGreatDoor
