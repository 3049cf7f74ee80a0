/- Package automaton: masks, the first state, what accepts; the reference's. -/
import Derived.Test.YtiedaongfjcbhaaMake9
namespace Go.Proofs.Ytiedaongfjcbhaa
open Go.RowKit

/-- Whether a mask has the bit k. -/
def bitB (mask k : Int) : Bool := decide (0 ≤ k) && (decide (k < 8) && decide (mask / 2 ^ k.toNat % 2 = 1))
theorem and_one (v : Int) (h0 : 0 ≤ v) (h1 : v < 256) : bits .and .u8 v 1 = v % 2 := by
  have h := allB_int (n := 256) (p := fun b => decide (bits .and .u8 (b : Int) 1 = (b : Int) % 2)) (by decide +kernel) v h0 h1
  rw [show ((v.toNat : Nat) : Int) = v from by omega] at h
  exact of_decide_eq_true h
theorem div_bd (v : Int) (j : Nat) (h0 : 0 ≤ v) (h1 : v < 256) : 0 ≤ v / 2 ^ j ∧ v / 2 ^ j < 256 := by
  have hp : (0 : Int) < 2 ^ j := Int.pow_pos (by decide)
  refine ⟨Int.ediv_nonneg h0 (Int.le_of_lt hp), ?_⟩
  have := Int.ediv_le_self (b := 2 ^ j) h0 
  omega
theorem bit_at (mask : Int) (j : Nat) (h0 : 0 ≤ mask) (h1 : mask < 256) (hj : j < 8) : (bits .and .u8 (mask / 2 ^ j) 1 == 1) = bitB mask j := by
  have hd := div_bd mask j h0 h1
  rw [and_one _ hd.1 hd.2]
  unfold bitB
  rw [show decide (0 ≤ (j : Int)) = true by simp, show decide ((j : Int) < 8) = true by simp; omega]
  simp only [Int.toNat_natCast, Bool.true_and]
  rfl
theorem bit_big (mask : Int) (j : Nat) (h0 : 0 ≤ mask) (h1 : mask < 256) (hj : 8 ≤ j) : mask / 2 ^ j = 0 ∧ bitB mask j = false := by
  refine ⟨Int.ediv_eq_zero_of_lt h0 ?_, ?_⟩
  · have h1' : (2 : Nat) ^ 8 ≤ 2 ^ j := Nat.pow_le_pow_right (by decide) hj
    have h2 : ((2 ^ j : Nat) : Int) = (2 : Int) ^ j := by simp
    have h3 : (2 : Nat) ^ 8 = 256 := by decide
    omega
  · unfold bitB
    rw [show decide ((j : Int) < 8) = false by simp; omega]
    simp
theorem bit_neg (mask k : Int) (h : k < 0) : bitB mask k = false := by
  unfold bitB
  rw [show decide (0 ≤ k) = false by simp; omega]
  rfl
set_option maxRecDepth 10000 in
theorem hasBit_any (mask k : Int) (hm : 0 ≤ mask ∧ mask < 256) (w : World) :
    Calls Try.prog 37 #[.int .u8 mask, .int .i64 k] w fun e w' => e = .returned (.bool (bitB mask k)) ∧ w = w' := by
  by_cases hk : k < 0
  · have hn : ¬ 0 ≤ k := by omega
    have hb := Lib.hid (bit_neg mask k hk)
    go_enter Try.func37, Try.ntmps37
    go_wp2
    go_ret
    exact ⟨ret_bool hb.out.symm, rfl⟩
  · obtain ⟨j, rfl⟩ : ∃ j : Nat, k = (j : Int) := ⟨k.toNat, by omega⟩
    have hn : 0 ≤ (j : Int) := by omega
    by_cases hj : j < 8
    · have hj8 : (j : Int) < 8 := by omega
      have hb := bit_at mask j hm.1 hm.2 hj
      obtain ⟨r, hr⟩ : ∃ r, bitB mask j = r := ⟨_, rfl⟩
      rw [hr] at hb ⊢
      clear hr
      go_enter Try.func37, Try.ntmps37
      go_wp2
      go_ret
      exact ⟨rfl, rfl⟩
    · have hj8 : ¬ (j : Int) < 8 := by omega
      obtain ⟨_, hb⟩ := bit_big mask j hm.1 hm.2 (by omega)
      have h0 : (bits .and .u8 0 1 == 1) = false := by decide
      have hmn : min j 8 = 8 := by omega
      have hz8 : mask / 256 = 0 := by omega
      rw [hb]
      clear hb
      go_enter Try.func37, Try.ntmps37
      go_wp2
      go_ret
      exact ⟨rfl, rfl⟩
set_option maxRecDepth 10000 in
theorem rBit_any (mask k : Int) (hm : 0 ≤ mask ∧ mask < 256) (w : World) :
    Calls Try.prog 28 #[.int .u8 mask, .int .i64 k] w fun e w' => e = .returned (.bool (bitB mask k)) ∧ w = w' := by
  by_cases hk : k < 0
  · have hn : ¬ 0 ≤ k := by omega
    have hb := Lib.hid (bit_neg mask k hk)
    go_enter Try.func28, Try.ntmps28
    go_wp2
    go_ret
    exact ⟨ret_bool hb.out.symm, rfl⟩
  · obtain ⟨j, rfl⟩ : ∃ j : Nat, k = (j : Int) := ⟨k.toNat, by omega⟩
    have hn : 0 ≤ (j : Int) := by omega
    by_cases hj : j < 8
    · have hj8 : (j : Int) < 8 := by omega
      have hb := bit_at mask j hm.1 hm.2 hj
      obtain ⟨r, hr⟩ : ∃ r, bitB mask j = r := ⟨_, rfl⟩
      rw [hr] at hb ⊢
      clear hr
      go_enter Try.func28, Try.ntmps28
      go_wp2
      go_ret
      exact ⟨rfl, rfl⟩
    · have hj8 : ¬ (j : Int) < 8 := by omega
      obtain ⟨_, hb⟩ := bit_big mask j hm.1 hm.2 (by omega)
      have h0 : (bits .and .u8 0 1 == 1) = false := by decide
      have hmn : min j 8 = 8 := by omega
      have hz8 : mask / 256 = 0 := by omega
      rw [hb]
      clear hb
      go_enter Try.func28, Try.ntmps28
      go_wp2
      go_ret
      exact ⟨rfl, rfl⟩
/-- A state: mode, class of the last character, mask of what may come next. -/
structure St where
  mode : Int
  last : Int
  need : Int
  deriving DecidableEq
def St.val (s : St) : Value := .agg #[.int .i64 s.mode, .int .i64 s.last, .int .u8 s.need]
def St.fits (s : St) : Prop := (-9223372036854775808 ≤ s.mode ∧ s.mode ≤ 9223372036854775807) ∧ (-9223372036854775808 ≤ s.last ∧ s.last ≤ 9223372036854775807) ∧ (0 ≤ s.need ∧ s.need < 256)
def St.start : St := ⟨0, 0, 63⟩
/-- A state in its own words; the masks' tests. -/
def accB (a : Int) (s : St) : Bool := bitB a s.mode && bitB s.need 0
theorem start_any (w : World) : Calls Try.prog 26 #[] w fun e w' => e = .returned St.start.val ∧ Below w.heap.size w w' := by
  go_enter Try.func26, Try.ntmps26
  go_wp2
  refine bodyPost_ret (v := St.start.val) (by simp [results, Try.results26, go_sem]; rfl) rfl ⟨rfl, ?_⟩
  exact (Below.refl _ _).alloc (Nat.le_refl _) _
theorem rStart_any (w : World) : Calls Try.prog 40 #[] w fun e w' => e = .returned St.start.val ∧ Below w.heap.size w w' := by
  go_enter Try.func40, Try.ntmps40
  go_wp2
  refine bodyPost_ret (v := St.start.val) (by simp [results, Try.results40, go_sem]; rfl) rfl ⟨rfl, ?_⟩
  exact (Below.refl _ _).alloc (Nat.le_refl _) _
set_option maxRecDepth 10000 in
theorem accepts_any (m a : Int) (A : Option Addr) (n k : Nat) (s : St) (ha : 0 ≤ a ∧ a < 256) (hs : s.fits) (w : World) :
    Calls Try.prog 14 #[.agg #[.int .i64 m, .int .u8 a, .slice A n k], s.val] w fun e w' => e = .returned (.bool (accB a s)) ∧ Below w.heap.size w w' := by
  obtain ⟨mo, la, ne⟩ := s
  have hne := hs.2.2
  unfold St.val accB
  dsimp only at hne ⊢
  have hB : Below w.heap.size w ((w.alloc (.cells #[.int .i64 m, .int .u8 a, .slice A n k] 31)).alloc (.cells #[.int .i64 mo, .int .i64 la, .int .u8 ne] 26)) := ((Below.refl _ _).alloc (Nat.le_refl _) _).alloc (by simp) _
  have HB := Lib.hid hB
  clear hB
  obtain ⟨r1, h1⟩ : ∃ r, bitB a mo = r := ⟨_, rfl⟩
  obtain ⟨r2, h2⟩ : ∃ r, bitB ne 0 = r := ⟨_, rfl⟩
  rw [h1, h2]
  have H1 := Lib.hid h1
  have H2 := Lib.hid h2
  clear h1 h2
  go_enter Try.func14, Try.ntmps14
  go_wp2_with fail
  refine (hasBit_any a mo ha _).mono ?_
  rintro e w1 ⟨rfl, rfl⟩
  rw [H1.out]
  cases r1
  · go_wp2
    go_ret
    exact ⟨rfl, HB.out⟩
  · go_wp2_with fail
    refine (hasBit_any ne 0 hne _).mono ?_
    rintro e w1 ⟨rfl, rfl⟩
    rw [H2.out]
    cases r2
    · go_wp2
      go_ret
      exact ⟨rfl, HB.out⟩
    · go_wp2
      go_ret
      exact ⟨rfl, HB.out⟩
end Go.Proofs.Ytiedaongfjcbhaa
