/- Merged by program: Rb1 Rb2 -/
import Derived.Test.YtpkdlljefkbmpaaQ1
import Derived.Test.YtpkdlljefkbmpaaQ2
import Derived.Deep.LoopGhost
import Derived.Deep.CutBlock
import Derived.Deep.CutRange

/-! Package readback: how many cells two lists have in common at their beginnings; the reference's begins. -/
namespace Go.Proofs.Ytpkdlljefkbmpaa
open Go.RowKit
theorem ret_n {k : IntKind} {a b : Int} (h : a = b) : Ending.returned (.int k a) = .returned (.int k b) := by rw [h]
/-- The length of the common beginning. -/
def comL : List Int → List Int → Nat
  | a :: r, b :: s => if a = b then comL r s + 1 else 0
  | _, _ => 0
theorem comL_le : ∀ (a b : List Int), comL a b ≤ a.length ∧ comL a b ≤ b.length := by
  intro a
  induction a with
  | nil => intro b; cases b <;> exact ⟨Nat.zero_le _, Nat.zero_le _⟩
  | cons x r ih =>
    intro b
    cases b with
    | nil => exact ⟨Nat.zero_le _, Nat.zero_le _⟩
    | cons y s =>
      unfold comL
      split
      · have := ih s; simp only [List.length_cons]; omega
      · exact ⟨Nat.zero_le _, Nat.zero_le _⟩
theorem comL_step : ∀ (a b : List Int) (i : Nat), comL (a.drop i) (b.drop i) + i = (if h : i < a.length ∧ i < b.length then (if a[i]'h.1 = b[i]'h.2 then comL (a.drop (i + 1)) (b.drop (i + 1)) + (i + 1) else i) else i) := by
  intro a b i
  split
  · rename_i h
    rw [List.drop_eq_getElem_cons h.1, List.drop_eq_getElem_cons h.2]
    show (if a[i]'h.1 = b[i]'h.2 then comL (a.drop (i + 1)) (b.drop (i + 1)) + 1 else 0) + i = _
    split
    · omega
    · omega
  · rename_i h
    rcases Nat.lt_or_ge i a.length with g | g
    · rcases Nat.lt_or_ge i b.length with g2 | g2
      · exact absurd ⟨g, g2⟩ h
      · rw [List.drop_eq_nil_of_le g2]
        cases a.drop i <;> simp [comL]
    · rw [List.drop_eq_nil_of_le g]
      simp [comL]
set_option maxRecDepth 10000 in
set_option maxHeartbeats 1000000 in
theorem common_any (A B : Option Addr) (n m k l : Nat) (xs ys : List Int) (w : World) (hx : xs.length = n) (hy : ys.length = m) (hA : Seq w w.heap.size A xs) (hB : Seq w w.heap.size B ys) (hn : n < 2 ^ 40) :
    Calls Try.prog 110 #[.slice A n k, .slice B m l] w fun e w' => e = .returned (.int .i64 (comL xs ys : Nat)) ∧ Below w.heap.size w w' := by
  subst hx hy
  have HA := Lib.hid hA
  have HB := Lib.hid hB
  clear hA hB
  go_enter Try.func110, Try.ntmps110
  go_wp2_with fail
  go_loopw [5] (fun x wr => ∃ i : Nat, x = .int .i64 i ∧ i ≤ xs.length ∧ i ≤ ys.length ∧ comL xs ys = comL (xs.drop i) (ys.drop i) + i ∧ Below w.heap.size w wr) (fun x _ => xs.length - (intOf x).toNat)
  case atStart => exact ⟨0, rfl, Nat.zero_le _, Nat.zero_le _, rfl, Below.refl _ _⟩
  case round =>
    obtain ⟨i, rfl, hi1, hi2, hc, hb⟩ := hrel
    have HC := Lib.hid hc
    have HW := Lib.hid hb
    have HST := Lib.hid (comL_step xs ys i)
    clear hc hb
    by_cases hlt : i < xs.length
    · by_cases hlt2 : i < ys.length
      · obtain ⟨ab, ao, rfl, hab, hac⟩ := HA.out (by omega)
        obtain ⟨bb, bo, rfl, hbb, hbc⟩ := HB.out (by omega)
        have a0 := (HW.out.cell (p := ⟨ab, ao + i, none⟩) hab).trans (hac i hlt)
        have b0 := (HW.out.cell (p := ⟨bb, bo + i, none⟩) hbb).trans (hbc i hlt2)
        have HST2 := HST.out
        rw [dif_pos ⟨hlt, hlt2⟩] at HST2
        have HS := Lib.hid HST2
        have hi0 : (0 : Int) ≤ (i : Int) := by omega
        have hin : (i : Int) < (xs.length : Int) := by omega
        have him : (i : Int) < (ys.length : Int) := by omega
        clear hac hbc HST2 HST
        generalize xs[i]'hlt = xv at *
        generalize ys[i]'hlt2 = yv at *
        by_cases he : xv = yv
        · subst he
          have hbe : (xv == xv) = true := beq_self_eq_true _
          go_upto_region 2 with fail
          go_region
          go_wp2_with fail
          exact ⟨⟨i + 1, by go_num, hlt, hlt2, by rw [HC.out, HS.out, if_pos rfl], HW.out.drew⟩, by simp [intOf]; omega⟩
        · have hbe : (xv == yv) = false := by rw [beq_eq_false_iff_ne]; exact he
          have HE : Hid (comL xs ys = i) := by unfold Hid; rw [HC.out, HS.out, if_neg he]
          clear he
          go_upto_region 2 with fail
          go_region
          go_wp2_with fail
          go_ret
          exact ⟨ret_n (by rw [HE.out]), HW.out.drew⟩
      · have HE : Hid (comL xs ys = i) := by unfold Hid; rw [HC.out, HST.out, dif_neg (fun h => hlt2 h.2)]
        have hie : i = ys.length := by omega
        subst hie
        go_upto_region 2 with fail
        go_region
        go_wp2_with fail
        go_ret
        exact ⟨ret_n (by rw [HE.out]), HW.out.drew⟩
    · have HE : Hid (comL xs ys = i) := by unfold Hid; rw [HC.out, HST.out, dif_neg (fun h => hlt h.1)]
      have hie : i = xs.length := by omega
      subst hie
      go_upto_region 2 with fail
      go_region
      go_wp2_with fail
      go_ret
      exact ⟨ret_n (by rw [HE.out]), HW.out.drew⟩
set_option maxRecDepth 10000 in
set_option maxHeartbeats 1000000 in
theorem begins_any (A B : Option Addr) (n m k l : Nat) (xs ys : List Int) (w : World) (hx : xs.length = n) (hy : ys.length = m) (hA : Seq w w.heap.size A xs) (hB : Seq w w.heap.size B ys) (hn : n < 2 ^ 40) (hm : m < 2 ^ 40) :
    Calls Try.prog 113 #[.slice A n k, .slice B m l] w fun e w' => e = .returned (.tuple #[.int .i64 ((min n m : Nat) : Int), .bool (decide (comL xs ys = min n m))]) ∧ Below w.heap.size w w' := by
  subst hx hy
  have HA := Lib.hid hA
  have HB := Lib.hid hB
  clear hA hB
  by_cases hle : xs.length ≤ ys.length
  · rw [show min xs.length ys.length = xs.length from by omega]
    have hle2 : (xs.length : Int) ≤ (ys.length : Int) := by omega
    have HMN : Hid (min (xs.length : Int) (ys.length : Int) = (xs.length : Int)) := by unfold Hid; omega
    go_enter Try.func113, Try.ntmps113
    go_wp2_with fail
    go_loopw [7] (fun x wr => ∃ i : Nat, x = .int .i64 i ∧ i ≤ xs.length ∧ comL xs ys = comL (xs.drop i) (ys.drop i) + i ∧ Below w.heap.size w wr) (fun x _ => xs.length - (intOf x).toNat)
    case atStart => exact ⟨0, rfl, Nat.zero_le _, rfl, Below.refl _ _⟩
    case round =>
      obtain ⟨i, rfl, hi1, hc, hb⟩ := hrel
      have HC := Lib.hid hc
      have HW := Lib.hid hb
      have HST := Lib.hid (comL_step xs ys i)
      clear hc hb
      by_cases hlt : i < xs.length
      · have hl1 : i < xs.length := by omega
        have hl2 : i < ys.length := by omega
        obtain ⟨ab, ao, rfl, hab, hac⟩ := HA.out (by omega)
        obtain ⟨bb, bo, rfl, hbb, hbc⟩ := HB.out (by omega)
        have a0 := (HW.out.cell (p := ⟨ab, ao + i, none⟩) hab).trans (hac i hl1)
        have b0 := (HW.out.cell (p := ⟨bb, bo + i, none⟩) hbb).trans (hbc i hl2)
        have HST2 := HST.out
        rw [dif_pos ⟨hl1, hl2⟩] at HST2
        have HS := Lib.hid HST2
        have hi0 : (0 : Int) ≤ (i : Int) := by omega
        have hin : (i : Int) < (xs.length : Int) := by omega
        have him : (i : Int) < (ys.length : Int) := by omega
        clear hac hbc HST2 HST
        generalize xs[i]'hl1 = xv at *
        generalize ys[i]'hl2 = yv at *
        by_cases he : xv = yv
        · subst he
          have hbe : (xv != xv) = false := by simp
          go_upto_region 5 with fail
          go_region
          go_wp2_with fail
          exact ⟨⟨i + 1, by go_num, hlt, by rw [HC.out, HS.out, if_pos rfl], HW.out.drew⟩, by simp [intOf]; omega⟩
        · have hbe : (xv != yv) = true := by rw [bne_iff_ne]; exact he
          have HE : Hid (comL xs ys = i) := by unfold Hid; rw [HC.out, HS.out, if_neg he]
          have HF : Hid (decide (comL xs ys = xs.length) = false) := by unfold Hid; rw [HE.out]; exact decide_eq_false (by omega)
          clear he
          go_upto_region 5 with fail
          go_region
          go_wp2_with fail
          go_ret2
          rw [HF.out]
          first | exact ⟨rfl, HW.out.drew⟩ | (rw [HMN.out]; exact ⟨rfl, HW.out.drew⟩)
      · have HE : Hid (comL xs ys = i) := by unfold Hid; rw [HC.out, HST.out, dif_neg (fun h => by omega)]
        have HF : Hid (decide (comL xs ys = xs.length) = true) := by unfold Hid; rw [HE.out]; exact decide_eq_true (by omega)
        go_wp2_with fail
        go_ret2
        rw [HF.out]
        first | exact ⟨rfl, HW.out⟩ | (rw [HMN.out]; exact ⟨rfl, HW.out⟩)
  · rw [show min xs.length ys.length = ys.length from by omega]
    have hle2 : (ys.length : Int) < (xs.length : Int) := by omega
    have HMN : Hid (min (xs.length : Int) (ys.length : Int) = (ys.length : Int)) := by unfold Hid; omega
    go_enter Try.func113, Try.ntmps113
    go_wp2_with fail
    go_loopw [7] (fun x wr => ∃ i : Nat, x = .int .i64 i ∧ i ≤ ys.length ∧ comL xs ys = comL (xs.drop i) (ys.drop i) + i ∧ Below w.heap.size w wr) (fun x _ => ys.length - (intOf x).toNat)
    case atStart => exact ⟨0, rfl, Nat.zero_le _, rfl, Below.refl _ _⟩
    case round =>
      obtain ⟨i, rfl, hi1, hc, hb⟩ := hrel
      have HC := Lib.hid hc
      have HW := Lib.hid hb
      have HST := Lib.hid (comL_step xs ys i)
      clear hc hb
      by_cases hlt : i < ys.length
      · have hl1 : i < xs.length := by omega
        have hl2 : i < ys.length := by omega
        obtain ⟨ab, ao, rfl, hab, hac⟩ := HA.out (by omega)
        obtain ⟨bb, bo, rfl, hbb, hbc⟩ := HB.out (by omega)
        have a0 := (HW.out.cell (p := ⟨ab, ao + i, none⟩) hab).trans (hac i hl1)
        have b0 := (HW.out.cell (p := ⟨bb, bo + i, none⟩) hbb).trans (hbc i hl2)
        have HST2 := HST.out
        rw [dif_pos ⟨hl1, hl2⟩] at HST2
        have HS := Lib.hid HST2
        have hi0 : (0 : Int) ≤ (i : Int) := by omega
        have hin : (i : Int) < (xs.length : Int) := by omega
        have him : (i : Int) < (ys.length : Int) := by omega
        clear hac hbc HST2 HST
        generalize xs[i]'hl1 = xv at *
        generalize ys[i]'hl2 = yv at *
        by_cases he : xv = yv
        · subst he
          have hbe : (xv != xv) = false := by simp
          go_upto_region 5 with fail
          go_region
          go_wp2_with fail
          exact ⟨⟨i + 1, by go_num, hlt, by rw [HC.out, HS.out, if_pos rfl], HW.out.drew⟩, by simp [intOf]; omega⟩
        · have hbe : (xv != yv) = true := by rw [bne_iff_ne]; exact he
          have HE : Hid (comL xs ys = i) := by unfold Hid; rw [HC.out, HS.out, if_neg he]
          have HF : Hid (decide (comL xs ys = ys.length) = false) := by unfold Hid; rw [HE.out]; exact decide_eq_false (by omega)
          clear he
          go_upto_region 5 with fail
          go_region
          go_wp2_with fail
          go_ret2
          rw [HF.out]
          first | exact ⟨rfl, HW.out.drew⟩ | (rw [HMN.out]; exact ⟨rfl, HW.out.drew⟩)
      · have HE : Hid (comL xs ys = i) := by unfold Hid; rw [HC.out, HST.out, dif_neg (fun h => by omega)]
        have HF : Hid (decide (comL xs ys = ys.length) = true) := by unfold Hid; rw [HE.out]; exact decide_eq_true (by omega)
        go_wp2_with fail
        go_ret2
        rw [HF.out]
        first | exact ⟨rfl, HW.out⟩ | (rw [HMN.out]; exact ⟨rfl, HW.out⟩)
end Go.Proofs.Ytpkdlljefkbmpaa

/-! Package readback: lists of texts in memory; the reference's Strings. -/
namespace Go.Proofs.Ytpkdlljefkbmpaa
open Go.RowKit
/-- A slice that reads as a list of texts. -/
def SeqS (w : World) (B : Nat) (A : Option Addr) (ss : List ByteArray) : Prop :=
  0 < ss.length → ∃ b o : Nat, A = some ⟨b, o, none⟩ ∧ b < B ∧ ∀ j (h : j < ss.length), w.cell? ⟨b, o + j, none⟩ = some (.string ss[j])
theorem SeqS.nil {w : World} {B : Nat} {A : Option Addr} : SeqS w B A [] := fun h => absurd h (by simp)
theorem SeqS.keep {w w' : World} {B : Nat} {A : Option Addr} {ss : List ByteArray} (h : SeqS w B A ss) (hb : Below B w w') : SeqS w' B A ss := fun hl => by
  obtain ⟨b, o, e, hB, hc⟩ := h hl
  exact ⟨b, o, e, hB, fun j hj => (hb.cell (p := ⟨b, o + j, none⟩) hB).trans (hc j hj)⟩
theorem SeqS.more {w : World} {B B' : Nat} {A : Option Addr} {ss : List ByteArray} (h : SeqS w B A ss) (hB : B ≤ B') : SeqS w B' A ss := fun hl => by
  obtain ⟨b, o, e, hb, hc⟩ := h hl
  exact ⟨b, o, e, by omega, hc⟩
theorem SeqS.up {w w' : World} {A : Option Addr} {ss : List ByteArray} (h : SeqS w w.heap.size A ss) (hb : Below w.heap.size w w') : SeqS w' w'.heap.size A ss := (h.keep hb).more hb.size
/-- What Strings says. -/
def StrsEnd (xs ys : List ByteArray) (w : World) (e : Ending) (w' : World) : Prop := ∃ v, e = .returned (.bool v) ∧ (v = true ↔ xs = ys) ∧ Below w.heap.size w w'
theorem take_step {xs ys : List ByteArray} {i : Nat} (hx : i < xs.length) (hy : i < ys.length) (h : xs.take i = ys.take i) (he : xs[i] = ys[i]) : xs.take (i + 1) = ys.take (i + 1) := by
  rw [List.take_succ_eq_append_getElem hx, List.take_succ_eq_append_getElem hy, h, he]
theorem str_ne {a b : ByteArray} (h : a ≠ b) : (a.toList == b.toList) = false := by
  rw [beq_eq_false_iff_ne]
  intro e
  rw [ByteArray.toList_eq, ByteArray.toList_eq] at e
  exact h (by cases a; cases b; simp only [ByteArray.mk.injEq]; exact Array.toList_inj.1 e)
set_option maxRecDepth 10000 in
set_option maxHeartbeats 1000000 in
theorem strs_any (A B : Option Addr) (n m k l : Nat) (xs ys : List ByteArray) (w : World) (hx : xs.length = n) (hy : ys.length = m) (hA : SeqS w w.heap.size A xs) (hB : SeqS w w.heap.size B ys) (hn : n < 2 ^ 40) :
    Calls Try.prog 23 #[.slice A n k, .slice B m l] w (StrsEnd xs ys w) := by
  subst hx hy
  have HA := Lib.hid hA
  have HB := Lib.hid hB
  have HE : Hid (∀ (v : Bool) (W : World), (v = true ↔ xs = ys) → Below w.heap.size w W → StrsEnd xs ys w (.returned (.bool v)) W) := fun v W h1 h2 => ⟨v, rfl, h1, h2⟩
  clear hA hB
  by_cases hl : xs.length = ys.length
  · have HL := Lib.hid hl
    go_enter Try.func23, Try.ntmps23
    rw [hl]
    go_wp2_with fail
    go_loopw [5] (fun x wr => ∃ i : Nat, x = .int .i64 i ∧ i ≤ ys.length ∧ xs.take i = ys.take i ∧ Below w.heap.size w wr) (fun x _ => ys.length - (intOf x).toNat)
    case atStart => exact ⟨0, rfl, Nat.zero_le _, rfl, Below.refl _ _⟩
    case round =>
      obtain ⟨i, rfl, hi1, hc, hb⟩ := hrel
      have HC := Lib.hid hc
      have HW := Lib.hid hb
      clear hc hb
      by_cases hlt : i < ys.length
      · have hl1 : i < xs.length := by omega
        obtain ⟨ab, ao, rfl, hab, hac⟩ := HA.out (by omega)
        obtain ⟨bb, bo, rfl, hbb, hbc⟩ := HB.out (by omega)
        have a0 := (HW.out.cell (p := ⟨ab, ao + i, none⟩) hab).trans (hac i hl1)
        have b0 := (HW.out.cell (p := ⟨bb, bo + i, none⟩) hbb).trans (hbc i hlt)
        have HST : Hid (xs[i]'hl1 = ys[i]'hlt → xs.take (i + 1) = ys.take (i + 1)) := fun e => take_step hl1 hlt HC.out e
        have HNE : Hid (xs[i]'hl1 ≠ ys[i]'hlt → xs ≠ ys) := fun h e => by subst e; exact h rfl
        have hi0 : (0 : Int) ≤ (i : Int) := by omega
        have him : (i : Int) < (ys.length : Int) := by omega
        clear hac hbc hl
        generalize xs[i]'hl1 = xv at *
        generalize ys[i]'hlt = yv at *
        by_cases he : xv = yv
        · subst he
          have hbe : (xv.toList == xv.toList) = true := by simp
          go_upto_region 6 with fail
          go_region
          go_wp2_with fail
          exact ⟨⟨i + 1, by go_num, hlt, HST.out rfl, HW.out.drew⟩, by simp [intOf]; omega⟩
        · have hbe : (xv.toList == yv.toList) = false := str_ne he
          have HEND : Hid (∀ W : World, Below w.heap.size w W → StrsEnd xs ys w (.returned (.bool false)) W) := fun W h => HE.out false W ⟨fun h => absurd h Bool.false_ne_true, fun h => absurd h (HNE.out he)⟩ h
          go_upto_region 6 with fail
          go_region
          go_wp2_with fail
          go_ret
          exact HEND.out _ HW.out.drew
      · obtain rfl : i = ys.length := by omega
        have HQ : Hid (xs = ys) := by
          unfold Hid
          have h := HC.out
          rw [List.take_length, ← hl, List.take_length] at h
          exact h
        have HEND := Lib.hid (HE.out true wr ⟨fun _ => HQ.out, fun _ => rfl⟩ HW.out)
        go_wp2_with fail
        go_ret
        exact HEND.out
  · have hne : (xs.length : Int) ≠ (ys.length : Int) := by omega
    have hbe : ((xs.length : Int) != (ys.length : Int)) = true := by rw [bne_iff_ne]; exact hne
    have HEND := Lib.hid (HE.out false w ⟨fun h => absurd h Bool.false_ne_true, fun h => absurd (congrArg List.length h) hl⟩ (Below.refl _ _))
    go_enter Try.func23, Try.ntmps23
    go_wp2_with fail
    go_ret
    exact HEND.out
end Go.Proofs.Ytpkdlljefkbmpaa
