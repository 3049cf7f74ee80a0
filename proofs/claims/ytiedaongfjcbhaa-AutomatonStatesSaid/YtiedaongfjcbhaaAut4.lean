/- The reference of package automaton: Accepts. -/
import Derived.Test.YtiedaongfjcbhaaAut3
namespace Go.Proofs.Ytiedaongfjcbhaa
open Go.RowKit

def rAccB (m a : Int) (s : St) : Bool := decide (0 ≤ s.mode) && (decide (s.mode < m) && accB a s)
/-- For a table whose accepting modes are modes of its own, both say the same. -/
theorem rAcc_eq {m a : Int} {s : St} (h0 : 0 ≤ a) (h : a < 2 ^ m.toNat) : rAccB m a s = accB a s := by
  unfold rAccB
  by_cases h1 : 0 ≤ s.mode
  · by_cases h2 : s.mode < m
    · simp [h1, h2]
    · have hb : bitB a s.mode = false := by
        unfold bitB
        have hz : a / 2 ^ s.mode.toNat = 0 := by
          refine Int.ediv_eq_zero_of_lt h0 ?_
          have hle : (2 : Nat) ^ m.toNat ≤ 2 ^ s.mode.toNat := Nat.pow_le_pow_right (by decide) (by omega)
          have e1 : ((2 ^ m.toNat : Nat) : Int) = (2 : Int) ^ m.toNat := by simp
          have e2 : ((2 ^ s.mode.toNat : Nat) : Int) = (2 : Int) ^ s.mode.toNat := by simp
          omega
        rw [hz]
        simp
      unfold accB
      rw [hb]
      simp
  · have hb : bitB a s.mode = false := bit_neg a s.mode (by omega)
    unfold accB
    rw [hb]
    simp
set_option maxRecDepth 10000 in
theorem rAccepts_any (m a : Int) (A : Option Addr) (n k : Nat) (s : St) (ha : 0 ≤ a ∧ a < 256) (hs : s.fits) (w : World) :
    Calls Try.prog 15 #[.agg #[.int .i64 m, .int .u8 a, .slice A n k], s.val] w fun e w' => e = .returned (.bool (rAccB m a s)) ∧ Below w.heap.size w w' := by
  obtain ⟨mo, la, ne⟩ := s
  have hne := hs.2.2
  unfold St.val rAccB accB
  dsimp only at hne ⊢
  have hB : Below w.heap.size w ((w.alloc (.cells #[.int .i64 m, .int .u8 a, .slice A n k] 31)).alloc (.cells #[.int .i64 mo, .int .i64 la, .int .u8 ne] 26)) := ((Below.refl _ _).alloc (Nat.le_refl _) _).alloc (by simp) _
  have HB := Lib.hid hB
  clear hB
  obtain ⟨r1, h1⟩ : ∃ r, bitB a mo = r := ⟨_, rfl⟩
  obtain ⟨r2, h2⟩ : ∃ r, bitB ne 0 = r := ⟨_, rfl⟩
  rw [h1, h2]
  have H1 := Lib.hid h1
  have H2 := Lib.hid h2
  clear h1 h2
  by_cases g1 : 0 ≤ mo
  · by_cases g2 : mo < m
    · rw [show decide (0 ≤ mo) = true by simp [g1], show decide (mo < m) = true by simp [g2]]
      go_enter Try.func15, Try.ntmps15
      go_wp2_with fail
      refine (rBit_any a mo ha _).mono ?_
      rintro e w1 ⟨rfl, rfl⟩
      rw [H1.out]
      cases r1
      · go_wp2
        go_ret
        exact ⟨rfl, HB.out⟩
      · go_wp2_with fail
        refine (rBit_any ne 0 hne _).mono ?_
        rintro e w1 ⟨rfl, rfl⟩
        rw [H2.out]
        cases r2
        · go_wp2
          go_ret
          exact ⟨rfl, HB.out⟩
        · go_wp2
          go_ret
          exact ⟨rfl, HB.out⟩
    · rw [show decide (0 ≤ mo) = true by simp [g1], show decide (mo < m) = false by simp; omega]
      go_enter Try.func15, Try.ntmps15
      go_wp2
      go_ret
      exact ⟨rfl, HB.out⟩
  · rw [show decide (0 ≤ mo) = false by simp; omega]
    go_enter Try.func15, Try.ntmps15
    go_wp2
    go_ret
    exact ⟨rfl, HB.out⟩
end Go.Proofs.Ytiedaongfjcbhaa
