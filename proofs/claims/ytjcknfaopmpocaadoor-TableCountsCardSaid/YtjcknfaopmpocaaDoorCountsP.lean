/- Tables of many rules, purely. -/
import Derived.Test.YtjcknfaopmpocaaDoorGood
namespace Go.Proofs.YtjcknfaopmpocaaDoor
open Go.RowKit

def cntR (i : Nat) : Rule := ⟨strOf [((33 + i : Nat) : Int)], [((1 + i % 62 : Nat) : Int)], 63, 63, 0, 0⟩
def cntRs (n : Nat) : List Rule := (List.range n).map cntR
theorem cnt_sound1 : (List.range 67).all (fun i => soundB (cntR i) 1) = true := by decide +kernel
theorem cnt_ne1 : (List.range 67).all (fun i => (List.range 67).all fun j => decide (i = j) || !decide (cntR i = cntR j)) = true := by decide +kernel
theorem sound_more {x : Rule} {m m' : Int} (h : soundB x m = true) (hm : m ≤ m') : soundB x m' = true := by
  unfold soundB modeB at h ⊢
  simp only [Bool.and_eq_true, decide_eq_true_eq] at h ⊢
  obtain ⟨⟨h0, h1, h2⟩, h3, h4⟩ := h
  exact ⟨⟨h0, h1, by omega⟩, h3, by omega⟩
theorem cnt_len (n : Nat) : (cntRs n).length = n := by simp [cntRs]
theorem cnt_at {n j : Nat} (h : j < (cntRs n).length) : (cntRs n)[j] = cntR j := by simp [cntRs]
theorem cnt_succ (n : Nat) : cntRs (n + 1) = cntRs n ++ [cntR n] := by simp [cntRs, List.range_succ]
theorem cnt_good {m a : Int} {n : Nat} (hn : n < 67) (h : numsB m a n = true) : chkI m a (cntRs n) = 0 ∧ chkE m a (cntRs n) = 0 := by
  refine chk_ok (by rw [cnt_len]; exact h) fun j hj => ?_
  rw [cnt_len] at hj
  have hm : 1 ≤ m := by
    unfold numsB at h
    simp only [Bool.and_eq_true, decide_eq_true_eq] at h
    exact h.1.1.1.1.1
  have hl : j < (cntRs n).length := by rw [cnt_len]; exact hj
  refine badAt_fine hl ?_ fun i hi hij => ?_
  · rw [cnt_at hl]
    exact sound_more (List.all_eq_true.1 cnt_sound1 j (List.mem_range.2 (by omega))) hm
  · rw [cnt_at hl, cnt_at hi]
    have := List.all_eq_true.1 (List.all_eq_true.1 cnt_ne1 i (List.mem_range.2 (by omega))) j (List.mem_range.2 (by omega))
    simp only [Bool.or_eq_true, decide_eq_true_eq, Bool.not_eq_true', decide_eq_false_iff_not] at this
    rcases this with h | h
    · omega
    · exact h
theorem cnt_bad {m a : Int} {n : Nat} (h : numsB m a n = false) : chkI m a (cntRs n) = -1 ∧ chkE m a (cntRs n) = 1 := chk_nums (by rw [cnt_len]; exact h)
theorem cnt_fits (i : Nat) (h : i < 67) : (cntR i).fits := by
  refine ⟨by show (strOf [_]).size < _; rw [show (strOf [((33 + i : Nat) : Int)]).size = 1 from rfl]; omega, by show 1 < 2 ^ 47; omega, fun z hz => ?_, ⟨by show (0 : Int) ≤ 63; decide, by show (63 : Int) < 256; decide⟩, ⟨by show (0 : Int) ≤ 63; decide, by show (63 : Int) < 256; decide⟩, ⟨by show _ ≤ (0 : Int); decide, by show (0 : Int) ≤ _; decide⟩, ⟨by show _ ≤ (0 : Int); decide, by show (0 : Int) ≤ _; decide⟩⟩
  have : z = ((1 + i % 62 : Nat) : Int) := by simpa [cntR] using hz
  omega
end Go.Proofs.YtjcknfaopmpocaaDoor
