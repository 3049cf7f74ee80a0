/- Plain facts on felt cells. -/
import Derived.Test.YtmbaebbhecfpdaaA
namespace Go.Proofs.Ytmbaebbhecfpdaa
open Go.RowKit

def fitN (u m c : Nat) : Bool := ((u ^^^ c) &&& (63 - m)) == 0
theorem felt (x m : Nat) (hx : x < 64) (hm : m < 64) : dots (x &&& (63 - m)) ≤ dots x ∧ dots x ≤ dots (x &&& (63 - m)) + dots m ∧ ((x &&& (63 - m)) == 0) = (dots (x &&& (63 - m)) == 0) := by
  have h := allB2_out (n := 64) (m := 64) (p := fun x m => decide (dots (x &&& (63 - m)) ≤ dots x) && decide (dots x ≤ dots (x &&& (63 - m)) + dots m) && (((x &&& (63 - m)) == 0) == (dots (x &&& (63 - m)) == 0))) (by decide +kernel) x m hx hm
  simp only [Bool.and_eq_true, decide_eq_true_eq, beq_iff_eq] at h
  exact ⟨h.1.1, h.1.2, h.2⟩
/-- How many of the first k cells fit. -/
def fitsTo (u m : Nat) : Nat → Nat
  | 0 => 0
  | k + 1 => fitsTo u m k + if fitN u m k then 1 else 0
theorem fits_all : allB 64 (fun u => allB 64 fun m => fitsTo u m 64 == 2 ^ dots m) = true := by decide +kernel
theorem fits_count (u m : Nat) (hu : u < 64) (hm : m < 64) : fitsTo u m 64 = 2 ^ dots m := by
  have := allB2_out (p := fun u m => fitsTo u m 64 == 2 ^ dots m) fits_all u m hu hm
  simpa using this
theorem dots_cell (m : Nat) (hm : m < 64) : dots m ≤ 6 := by
  have := allB_out (n := 64) (p := fun m => decide (dots m ≤ 6)) (by decide +kernel) m hm
  simpa using this
/-- 255 - m and 63 - m mask a cell alike. -/
theorem mask_cell (x m : Nat) (hx : x < 64) (hm : m < 64) : x &&& (255 - m) = x &&& (63 - m) := by
  have := allB2_out (n := 64) (m := 64) (p := fun x m => (x &&& (255 - m)) == (x &&& (63 - m))) (by decide +kernel) x m hx hm
  simpa using this
theorem cost_nat (u m c : Nat) (hu : u < 64) (hm : m < 64) (hc : c < 64) : costI u m c = (dots ((u ^^^ c) &&& (63 - m)) : Nat) := by
  have hx : u ^^^ c < 64 := Nat.xor_lt_two_pow (n := 6) hu hc
  unfold costI cnt
  rw [u8_xor_nat u c (by omega) (by omega), u8_andNot_nat _ m (by omega) (by omega), Int.toNat_natCast, mask_cell _ _ hx hm]
theorem dist_nat (a b : Nat) (ha : a < 64) (hb : b < 64) : distI a b = (dots (a ^^^ b) : Nat) := by
  unfold distI cnt; rw [u8_xor_nat a b (by omega) (by omega), Int.toNat_natCast]
theorem fits_nat (u m c : Nat) (hu : u < 64) (hm : m < 64) (hc : c < 64) : fitsI u m c = fitN u m c := by
  unfold fitsI
  have ho : u ||| m < 256 := nat_lor_lt (by omega) (by omega)
  have ha : u &&& (255 - m) < 256 := Nat.lt_of_le_of_lt Nat.and_le_left (by omega)
  rw [u8_andNot_nat u m (by omega) (by omega), u8_or_nat u m (by omega) (by omega), u8_andNot_nat c _ (by omega) ho, u8_and_nat c _ (by omega) ha]
  unfold fitN
  rw [Bool.eq_iff_iff]
  simp only [Bool.and_eq_true, beq_iff_eq, Int.ofNat_inj, Int.natCast_eq_zero]
  have hb : ∀ i, 6 ≤ i → c.testBit i = false ∧ u.testBit i = false ∧ m.testBit i = false := fun i hi => by
    have h64 : 64 ≤ 2 ^ i := by have := Nat.pow_le_pow_right (n := 2) (by omega) hi; simpa using this
    exact ⟨Nat.testBit_lt_two_pow (by omega), Nat.testBit_lt_two_pow (by omega), Nat.testBit_lt_two_pow (by omega)⟩
  have t255 : ∀ x i, x < 256 → (255 - x).testBit i = (decide (i < 8) && !x.testBit i) := fun x i hx => by
    have := Nat.testBit_two_pow_sub_succ (x := x) (n := 8) hx i
    simpa using this
  have t63 : ∀ x i, x < 64 → (63 - x).testBit i = (decide (i < 6) && !x.testBit i) := fun x i hx => by
    have := Nat.testBit_two_pow_sub_succ (x := x) (n := 6) hx i
    simpa using this
  constructor
  · rintro ⟨h1, h2⟩
    apply Nat.eq_of_testBit_eq
    intro i
    have g1 := congrArg (fun z => z.testBit i) h1
    have g2 := congrArg (fun z => z.testBit i) h2
    have hz : (0 : Nat).testBit i = false := Nat.zero_testBit i
    simp only [Nat.testBit_and, Nat.testBit_or, Nat.testBit_xor, t255 m i (by omega), t255 (u ||| m) i ho, t63 m i hm, hz] at g1 g2 ⊢
    by_cases hi : i < 6
    · have : i < 8 := by omega
      cases hu' : u.testBit i <;> cases hm' : m.testBit i <;> cases hc' : c.testBit i <;> simp_all
    · simp [hi]
  · intro h
    have g : ∀ i, _ := fun i => congrArg (fun z => z.testBit i) h
    constructor
    all_goals
      apply Nat.eq_of_testBit_eq
      intro i
      have g1 := g i
      have hz : (0 : Nat).testBit i = false := Nat.zero_testBit i
      simp only [Nat.testBit_and, Nat.testBit_or, Nat.testBit_xor, t255 m i (by omega), t255 (u ||| m) i ho, t63 m i hm, hz] at g1 ⊢
      by_cases hi : i < 6
      · have : i < 8 := by omega
        cases hu' : u.testBit i <;> cases hm' : m.testBit i <;> cases hc' : c.testBit i <;> simp_all
      · obtain ⟨b1, b2, b3⟩ := hb i (by omega)
        simp [b1, b2, b3]
/-- What a felt cell and a cell owe. -/
theorem doubt (u m c : Nat) (hu : u < 64) (hm : m < 64) (hc : c < 64) :
    0 ≤ costI u m c ∧ costI u m c ≤ distI u c ∧ distI u c ≤ costI u m c + dots m ∧ fitsI u m c = (costI u m c == 0) ∧ fitsI u m c = fitN u m c ∧ costI u m c ≤ 8 ∧ distI u c ≤ 8 := by
  have hx : u ^^^ c < 64 := Nat.xor_lt_two_pow (n := 6) hu hc
  obtain ⟨h1, h2, h3⟩ := felt (u ^^^ c) m hx hm
  rw [cost_nat u m c hu hm hc, dist_nat u c hu hc, fits_nat u m c hu hm hc]
  have h4 : dots (u ^^^ c) ≤ 8 := pop_le 8 _
  refine ⟨by omega, by omega, by omega, ?_, rfl, by omega, by omega⟩
  unfold fitN
  rw [h3]
  rw [Bool.eq_iff_iff]; simp
end Go.Proofs.Ytmbaebbhecfpdaa
