/- The reference implementation of package cell. -/
import Derived.Test.YtmbaebbhecfpdaaFits
import Derived.Test.YtmbaebbhecfpdaaTexts
namespace Go.Proofs.Ytmbaebbhecfpdaa
open Go.RowKit

def hasB (c k : Nat) : Bool := decide (c / 2 ^ k % 2 = 1)
theorem has_bits (c k : Nat) (hc : c < 64) (hk : k < 6) : (bits .and .u8 ((c : Int) / 2 ^ k) 1 == 1) = hasB c k := by
  unfold hasB
  by_cases h : c / 2 ^ k % 2 = 1
  · rw [bit_yes c k hc hk h]; simp [h]
  · rw [bit_no c k hc hk h]; simp [h]
set_option maxHeartbeats 400000 in
theorem has_any (c k : Nat) (hc : c < 64) (hk : k < 6) (w : World) :
    Calls Try.prog 35 #[.int .u8 c, .int .i64 ((k : Int) + 1)] w fun e w' => e = .returned (.bool (hasB c k)) ∧ w = w' := by
  have h := Lib.hid (has_bits c k hc hk)
  go_enter Try.func35, Try.ntmps35
  go_wp2
  go_ret
  exact ⟨ret_bool h.out, rfl⟩

theorem rAscii_any (c : Nat) (h1 : c < 64) (w : World) :
    Calls Try.prog 22 #[.int .u8 c] w fun e w' => e = .returned (.int .u8 (charI c)) ∧ w = w' := by
  go_enter Try.func22, Try.ntmps22
  have hm : c % 64 = c := Nat.mod_eq_of_lt h1
  go_wp2
  go_ret
  exact ⟨ret_int (congrArg Int.ofNat (chB_at c c rfl h1 (by rw [chB_size]; omega))), rfl⟩

theorem rMirror_any (c : Nat) (h1 : c < 64) (w : World) :
    Calls Try.prog 26 #[.int .u8 c] w fun e w' => e = .returned (.int .u8 (mirI c)) ∧ w = w' := by
  have h := allB_out (n := 64) (p := fun c => decide ((c : Int) % 8 * 8 + (c : Int) / 8 = mirI c)) (by decide +kernel) c h1
  have h := Lib.hid (of_decide_eq_true h)
  go_enter Try.func26, Try.ntmps26
  go_wp2
  go_ret
  exact ⟨ret_int h.out, rfl⟩

/-- In how many of the first k dots two cells part. -/
def apartTo (a b : Nat) : Nat → Nat
  | 0 => 0
  | k + 1 => apartTo a b k + if hasB a k = hasB b k then 0 else 1
theorem apart_all (a b : Nat) (ha : a < 64) (hb : b < 64) : ((apartTo a b 6 : Nat) : Int) = distI a b := by
  have h := allB2_out (n := 64) (m := 64) (p := fun a b => apartTo a b 6 == dots (a ^^^ b)) (by decide +kernel) a b ha hb
  rw [dist_nat a b ha hb, eq_of_beq h]
set_option maxHeartbeats 400000 in
theorem rDistance_any (a b : Nat) (ha : a < 64) (hb : b < 64) (w : World) :
    Calls Try.prog 24 #[.int .u8 a, .int .u8 b] w fun e w' => e = .returned (.int .i64 (distI a b)) ∧ w = w' := by
  go_enter Try.func24, Try.ntmps24
  go_wp2
  go_loop [5, 6] (fun n i => ∃ k : Nat, k ≤ 6 ∧ i = .int .i64 ((k : Int) + 1) ∧ n = .int .i64 (apartTo a b k : Nat) ∧ apartTo a b k ≤ k) (fun _ i => 7 - (intOf i).toNat)
  case atStart => exact ⟨0, by omega, rfl, rfl, by simp [apartTo]⟩
  case round =>
    obtain ⟨k, hk, rfl, rfl, hle⟩ := hrel
    by_cases hlt : k < 6
    · have hS : Hid (apartTo a b (k + 1) = apartTo a b k + if hasB a k = hasB b k then 0 else 1) := rfl
      go_wp2_with fail
      refine (has_any a k ha hlt _).mono ?_
      rintro e _ ⟨rfl, rfl⟩
      go_wp2_with fail
      refine (has_any b k hb hlt _).mono ?_
      rintro e _ ⟨rfl, rfl⟩
      generalize hasB a k = x at *
      generalize hasB b k = y at *
      cases x <;> cases y
      all_goals
        have hS2 := hS.out
        simp only [if_true, if_false, Bool.false_eq_true, Bool.true_eq_false] at hS2
        have HS := Lib.hid hS2
        clear hS hS2
        go_wp2
        exact ⟨⟨k + 1, by omega, by go_num, by rw [HS.out]; first | rfl | go_num, by rw [HS.out]; omega⟩, by simp [intOf]; omega⟩
    · have : k = 6 := by omega
      subst this
      have h := Lib.hid (apart_all a b ha hb)
      go_wp2
      go_ret
      exact ⟨ret_int h.out, rfl⟩

/-- Whether a cell fits in the first k dots, and the cost there. -/
def fitTo (u m c : Nat) : Nat → Bool
  | 0 => true
  | k + 1 => fitTo u m c k && (hasB m k || hasB u k == hasB c k)
def costTo (u m c : Nat) : Nat → Nat
  | 0 => 0
  | k + 1 => costTo u m c k + if hasB m k = false ∧ ¬ hasB u k = hasB c k then 1 else 0
theorem hasB_test (c k : Nat) : hasB c k = c.testBit k := by
  unfold hasB
  rw [Nat.testBit_eq_decide_div_mod_eq]
theorem costTo_dots (u m c : Nat) (hu : u < 64) (hm : m < 64) (hc : c < 64) : ((costTo u m c 6 : Nat) : Int) = costI u m c := by
  rw [cost_nat u m c hu hm hc]
  have hx : u ^^^ c < 64 := Nat.xor_lt_two_pow (n := 6) hu hc
  have h1 : ∀ k, k < 6 → hasB ((u ^^^ c) &&& (63 - m)) k = (!hasB m k && (hasB u k != hasB c k)) := by
    intro k hk
    have := Nat.testBit_two_pow_sub_succ (x := m) (n := 6) hm k
    have h63 : (63 - m).testBit k = (decide (k < 6) && !m.testBit k) := by simpa using this
    simp only [hasB_test, Nat.testBit_and, Nat.testBit_xor, h63, hk, decide_true, Bool.true_and]
    cases u.testBit k <;> cases c.testBit k <;> cases m.testBit k <;> rfl
  have h2 : ∀ x, x < 64 → dots x = (if hasB x 0 then 1 else 0) + (if hasB x 1 then 1 else 0) + (if hasB x 2 then 1 else 0) + (if hasB x 3 then 1 else 0) + (if hasB x 4 then 1 else 0) + (if hasB x 5 then 1 else 0) := by
    intro x hx
    have := allB_out (n := 64) (p := fun x => decide (dots x = (if hasB x 0 then 1 else 0) + (if hasB x 1 then 1 else 0) + (if hasB x 2 then 1 else 0) + (if hasB x 3 then 1 else 0) + (if hasB x 4 then 1 else 0) + (if hasB x 5 then 1 else 0))) (by decide +kernel) x hx
    exact of_decide_eq_true this
  have hlt : (u ^^^ c) &&& (63 - m) < 64 := Nat.lt_of_le_of_lt Nat.and_le_left hx
  rw [h2 _ hlt, h1 0 (by omega), h1 1 (by omega), h1 2 (by omega), h1 3 (by omega), h1 4 (by omega), h1 5 (by omega)]
  have e : ∀ k, (if hasB m k = false ∧ ¬ hasB u k = hasB c k then 1 else 0) = (if (!hasB m k && (hasB u k != hasB c k)) = true then 1 else 0) := by
    intro k; cases hasB m k <;> cases hasB u k <;> cases hasB c k <;> rfl
  simp only [costTo, e]
  omega
theorem fitTo_cost (u m c : Nat) : ∀ k, fitTo u m c k = (costTo u m c k == 0) := by
  intro k
  induction k with
  | zero => rfl
  | succ k ih =>
    unfold fitTo costTo
    rw [ih]
    cases hasB m k <;> cases hasB u k <;> cases hasB c k <;> simp
theorem fitTo_all (u m c : Nat) (hu : u < 64) (hm : m < 64) (hc : c < 64) : fitTo u m c 6 = fitsI u m c := by
  rw [fitTo_cost, (doubt u m c hu hm hc).2.2.2.1, ← costTo_dots u m c hu hm hc]
  rw [Bool.eq_iff_iff]; simp
theorem fitTo_no (u m c k j : Nat) (h : fitTo u m c k = false) : fitTo u m c (k + j) = false := by
  induction j with
  | zero => exact h
  | succ j ih => rw [← Nat.add_assoc, fitTo, ih]; rfl

set_option maxHeartbeats 400000 in
theorem rFits_any (u m c : Nat) (hu : u < 64) (hm : m < 64) (hc : c < 64) (w : World) :
    Calls Try.prog 28 #[.agg #[.int .u8 u, .int .u8 m], .int .u8 c] w fun e w' => e = .returned (.bool (fitsI u m c)) ∧ Below w.heap.size w w' := by
  go_enter Try.func28, Try.ntmps28
  go_wp2
  go_loop [5] (fun i => ∃ k : Nat, k ≤ 6 ∧ i = .int .i64 ((k : Int) + 1) ∧ fitTo u m c k = true) (fun i => 7 - (intOf i).toNat)
  case atStart => exact ⟨0, by omega, rfl, rfl⟩
  case round =>
    obtain ⟨k, hk, rfl, hf⟩ := hrel
    have HF := Lib.hid hf
    clear hf
    by_cases hlt : k < 6
    · have hS : Hid (fitTo u m c (k + 1) = (fitTo u m c k && (hasB m k || hasB u k == hasB c k))) := rfl
      have hN : Hid (fitTo u m c (k + 1) = false → fitsI u m c = false) := fun h => by
        have := fitTo_no u m c (k + 1) (6 - (k + 1)) h
        rw [show k + 1 + (6 - (k + 1)) = 6 from by omega] at this
        rw [← fitTo_all u m c hu hm hc]; exact this
      go_wp2_with fail
      refine (has_any m k hm hlt _).mono ?_
      rintro e _ ⟨rfl, rfl⟩
      generalize hasB m k = x at *
      cases x
      · go_wp2_with fail
        refine (has_any u k hu hlt _).mono ?_
        rintro e _ ⟨rfl, rfl⟩
        go_wp2_with fail
        refine (has_any c k hc hlt _).mono ?_
        rintro e _ ⟨rfl, rfl⟩
        generalize hasB u k = y at *
        generalize hasB c k = z at *
        cases y <;> cases z
        · go_wp2
          exact ⟨⟨k + 1, by omega, by go_num, by rw [hS.out, HF.out]; rfl⟩, by simp [intOf]; omega⟩
        · go_wp2
          go_ret
          exact ⟨ret_bool (hN.out (by rw [hS.out, HF.out]; rfl)).symm, (Below.refl _ _).alloc (Nat.le_refl _) _⟩
        · go_wp2
          go_ret
          exact ⟨ret_bool (hN.out (by rw [hS.out, HF.out]; rfl)).symm, (Below.refl _ _).alloc (Nat.le_refl _) _⟩
        · go_wp2
          exact ⟨⟨k + 1, by omega, by go_num, by rw [hS.out, HF.out]; rfl⟩, by simp [intOf]; omega⟩
      · go_wp2
        exact ⟨⟨k + 1, by omega, by go_num, by rw [hS.out, HF.out]; rfl⟩, by simp [intOf]; omega⟩
    · have : k = 6 := by omega
      subst this
      have h := Lib.hid (fitTo_all u m c hu hm hc)
      go_wp2
      go_ret
      exact ⟨ret_bool (by rw [← h.out, HF.out]), (Below.refl _ _).alloc (Nat.le_refl _) _⟩

set_option maxHeartbeats 400000 in
theorem rCost_any (u m c : Nat) (hu : u < 64) (hm : m < 64) (hc : c < 64) (w : World) :
    Calls Try.prog 30 #[.agg #[.int .u8 u, .int .u8 m], .int .u8 c] w fun e w' => e = .returned (.int .i64 (costI u m c)) ∧ Below w.heap.size w w' := by
  go_enter Try.func30, Try.ntmps30
  go_wp2
  go_loop [5, 6] (fun n i => ∃ k : Nat, k ≤ 6 ∧ i = .int .i64 ((k : Int) + 1) ∧ n = .int .i64 (costTo u m c k : Nat) ∧ costTo u m c k ≤ k) (fun _ i => 7 - (intOf i).toNat)
  case atStart => exact ⟨0, by omega, rfl, rfl, by simp [costTo]⟩
  case round =>
    obtain ⟨k, hk, rfl, rfl, hle⟩ := hrel
    by_cases hlt : k < 6
    · have hS : Hid (costTo u m c (k + 1) = costTo u m c k + if hasB m k = false ∧ ¬ hasB u k = hasB c k then 1 else 0) := rfl
      go_wp2_with fail
      refine (has_any m k hm hlt _).mono ?_
      rintro e _ ⟨rfl, rfl⟩
      generalize hasB m k = x at *
      cases x
      · go_wp2_with fail
        refine (has_any u k hu hlt _).mono ?_
        rintro e _ ⟨rfl, rfl⟩
        go_wp2_with fail
        refine (has_any c k hc hlt _).mono ?_
        rintro e _ ⟨rfl, rfl⟩
        generalize hasB u k = y at *
        generalize hasB c k = z at *
        cases y <;> cases z
        all_goals
          have hS2 := hS.out
          simp at hS2
          have HS := Lib.hid hS2
          clear hS hS2
          go_wp2
          exact ⟨⟨k + 1, by omega, by go_num, by first | (rw [HS.out]; done) | (rw [HS.out]; go_num), by rw [HS.out]; omega⟩, by simp [intOf]; omega⟩
      · have hS2 := hS.out
        simp at hS2
        have HS := Lib.hid hS2
        clear hS hS2
        go_wp2
        exact ⟨⟨k + 1, by omega, by go_num, by rw [HS.out], by rw [HS.out]; omega⟩, by simp [intOf]; omega⟩
    · have : k = 6 := by omega
      subst this
      have h := Lib.hid (costTo_dots u m c hu hm hc)
      go_wp2
      go_ret
      exact ⟨ret_int h.out, (Below.refl _ _).alloc (Nat.le_refl _) _⟩
end Go.Proofs.Ytmbaebbhecfpdaa
