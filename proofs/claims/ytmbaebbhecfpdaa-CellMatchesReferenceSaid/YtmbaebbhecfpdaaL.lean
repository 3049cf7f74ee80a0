/- Cells, ValidAll; rows of the call's own as lists. -/
import Derived.Test.YtmbaebbhecfpdaaF
import Derived.Test.YtmbaebbhecfpdaaFrame
namespace Go.Proofs.Ytmbaebbhecfpdaa
open Go.RowKit

theorem own_slice {w : World} {B : Nat} {t : TypeId} {v : Value} {n : Nat} {xs : List Int} (h : w.ownsRow B t 1 v n (xs.map (Value.int .u8))) :
    ∃ A k, v = .slice A n k ∧ xs.length = n ∧ Seq w w.heap.size A xs := by
  obtain ⟨hlen, hform⟩ := id h
  have hl : xs.length = n := by simpa using hlen
  rcases hform with ⟨rfl, hn0⟩ | ⟨g, cap, cur, rfl, hg, hblk, hcap, hmax, hsz, htk⟩
  · subst hn0
    have : xs = [] := List.eq_nil_of_length_eq_zero hl
    subst this
    exact ⟨_, _, rfl, rfl, Seq.nil⟩
  · refine ⟨_, _, rfl, hl, fun _ => ⟨g, 0, rfl, ?_, fun j hj => ?_⟩⟩
    · exact Blk.lt hblk
    · rw [Nat.zero_add, h.cellAt j (by omega)]
      simp [hj]
/-- A call returns a slice that reads as l. -/
def SliceEnd (w : World) (l : List Int) (e : Ending) (w' : World) : Prop :=
  ∃ A k, e = .returned (.slice A l.length k) ∧ Seq w' w'.heap.size A l ∧ Below w.heap.size w w'
def cellsTo (zs : List Int) (k : Nat) : List Int := (zs.take k).map (· % 64)
theorem cellsTo_step (zs : List Int) (k : Nat) (h : k < zs.length) : cellsTo zs (k + 1) = cellsTo zs k ++ [zs[k] % 64] := by
  unfold cellsTo; rw [List.take_succ_eq_append_getElem h, List.map_append]; rfl
theorem cellsTo_len (zs : List Int) (k : Nat) : (cellsTo zs k).length = min k zs.length := by simp [cellsTo]

set_option maxHeartbeats 400000 in
theorem cells_any (a : Option Addr) (len cap : Nat) (zs : List Int) (w : World) (h : IsRow .u8 w a len zs) :
    Calls Try.prog 31 #[.slice a len cap, .int .i64 20] w (SliceEnd w (cellsTo zs 20)) := by
  obtain ⟨hlen, hmax, hwf, hat⟩ := h
  unfold maxLen at hmax
  have HLEN := Lib.hid hlen
  have HWF := Lib.hid hwf
  have HAT := Lib.hid hat
  clear hlen hwf hat
  obtain ⟨i0, hi, hz0, hz1, hz2⟩ := info_parts info_cell
  go_enter Try.func31, Try.ntmps31
  go_wp2
  have hown0 : Hid ((w.alloc (.cells #[] 24)).ownsRow w.heap.size 24 1 (.slice (some ⟨w.heap.size, 0, none⟩) 0 0) 0 []) := World.ownsRow_lit w #[] 0 (Nat.le_refl _) (by simp [maxLen]) rfl
  have hb0 : Hid (Below w.heap.size w (w.alloc (.cells #[] 24))) := (Below.refl _ _).alloc (Nat.le_refl _) _
  go_loopw [5, 6] (fun v i wr => ∃ k : Nat, k ≤ len ∧ k ≤ 20 ∧ i = .int .i64 k ∧ wr.ownsRow w.heap.size 24 1 v k ((cellsTo zs k).map (Value.int .u8)) ∧ Below w.heap.size w wr) (fun _ i _ => 20 - (intOf i).toNat)
  case atStart => exact ⟨0, by omega, by omega, rfl, hown0.out, hb0.out⟩
  case round =>
    obtain ⟨k, hk, hk2, rfl, hown, hb⟩ := hrel
    clear hown0 hb0
    have HOWN := Lib.hid hown
    have hs1 := hb.size
    clear hown
    by_cases hlt : k < len ∧ k < 20
    · obtain ⟨b, o, e1, hB1, c1⟩ := HAT.out (by omega)
      subst e1
      have d1 := c1 k (by have := HLEN.out; omega)
      have d1 : wr.cell? ⟨b, o + k, none⟩ = some (.int .u8 (zs[k]'(by have := HLEN.out; omega))) := (hb.cell (p := ⟨b, o + k, none⟩) hB1).trans d1
      have hw := bounds_u8 (HWF.out _ (List.getElem_mem (h := by have := HLEN.out; omega)) : (Lit.int .u8 (zs[k]'(by have := HLEN.out; omega))).wf = true)
      have HP := Lib.hid (cellsTo_step zs k (by have := HLEN.out; omega))
      clear c1 HAT
      generalize zs[k]'(by have := HLEN.out; omega) = z at *
      obtain ⟨l1, l2⟩ := hlt
      have hk0 : (0 : Int) ≤ (k : Int) := by omega
      have hkl : (k : Int) < (len : Int) := by omega
      have hk20 : (k : Int) < 20 := by omega
      go_wp2_with (at_builtin; refine wpList_append_own _ rfl _ _ 29 rfl w.heap.size 24 i0 (.int .u8 0) 1 1 Try.underlying29 hi hz0 hz1 hz2 rfl (by decide) _ _ _ rfl (HOWN.out.alloc _) ⟨wr.heap.size, 0, none⟩ 1 1 [.int .u8 (z % 64)] rfl rfl ?c1 ?c2 ?c3 ?c4 ?c5 ?_)
      case c1 => exact cell_one_new _ _ _
      case c2 => exact ints_oneCell .u8 [z % 64]
      case c3 => unfold maxLen; omega
      case c4 => omega
      case c5 => simp; omega
      intro v' w1 hown' hgrow _
      have hb1 : Below w.heap.size w w1 := (hb.alloc hs1 _).grown hgrow (by simp; omega) (fun g hg => (HOWN.out.lt g hg).1)
      have HO := Lib.hid hown'
      have HB1 := Lib.hid hb1
      clear hown' hgrow hb1
      go_wp2
      refine ⟨⟨k + 1, by omega, by omega, by go_num, ?_, HB1.out⟩, by simp [intOf]; omega⟩
      rw [HP.out]; have := HO.out; simpa using this
    · have HK : Hid (cellsTo zs k = cellsTo zs 20 ∧ (cellsTo zs 20).length = k) := by
        have hl := HLEN.out
        rcases Nat.lt_or_ge k len with h1 | h1
        · have : k = 20 := by omega
          subst this
          exact ⟨rfl, by rw [cellsTo_len]; omega⟩
        · have : k = len := by omega
          subst this
          refine ⟨?_, by rw [cellsTo_len]; omega⟩
          unfold cellsTo
          rw [List.take_of_length_le (by omega), List.take_of_length_le (by omega)]
      obtain ⟨A, c, rfl, hcl, hseq⟩ := own_slice HOWN.out
      have HSEQ := Lib.hid hseq
      clear hseq hcl HOWN
      rcases Nat.lt_or_ge k len with h1 | h1
      · have : k = 20 := by omega
        subst this
        go_wp2
        go_ret
        exact ⟨A, c, by rw [HK.out.2]; rfl, by first | exact HSEQ.out | (rw [← HK.out.1]; exact HSEQ.out), hb⟩
      · have : k = len := by omega
        subst this
        go_wp2
        go_ret
        exact ⟨A, c, by rw [HK.out.2]; rfl, by first | exact HSEQ.out | (rw [← HK.out.1]; exact HSEQ.out), hb⟩

set_option maxHeartbeats 400000 in
theorem validAll_any (A : Option Addr) (n k : Nat) (xs : List Int) (w : World) (hn : xs.length = n) (hmax : n < 2 ^ 47) (hx : Seq w w.heap.size A xs) (hv : ∀ i, xs.getD i 0 < 64) :
    Calls Try.prog 33 #[.slice A n k] w fun e w' => e = .returned (.bool true) ∧ Below w.heap.size w w' := by
  have HN := Lib.hid hn
  have HV := Lib.hid hv
  clear hn hv
  go_enter Try.func33, Try.ntmps33
  go_wp2
  go_loop [3] (fun i => ∃ j : Nat, j ≤ n ∧ i = .int .i64 j) (fun i => n - (intOf i).toNat)
  case atStart => exact ⟨0, by omega, rfl⟩
  case round =>
    obtain ⟨j, hj, rfl⟩ := hrel
    by_cases hlt : j < n
    · obtain ⟨b1, o1, e1, hB1, c1⟩ := hx (by have := HN.out; omega)
      subst e1
      have d1 := c1 j (by have := HN.out; omega)
      have hv1 := HV.out j
      rw [List.getD_eq_getElem?_getD, List.getElem?_eq_getElem (by have := HN.out; omega), Option.getD_some] at hv1
      have hj0 : (0 : Int) ≤ (j : Int) := by omega
      have hjn : (j : Int) < (n : Int) := by omega
      clear c1 hx
      generalize xs[j]'(by have := HN.out; omega) = x at *
      go_wp2
      go_round
      case rel => exact ⟨j + 1, by omega, by go_num⟩
      case measure => simp [intOf]; omega
    · have : j = n := by omega
      subst this
      go_wp2
      go_ret
      exact ⟨rfl, Below.refl _ _⟩
end Go.Proofs.Ytmbaebbhecfpdaa
