/- Reference of the tables: indicator; Base(1), (2), (6). -/
import Derived.Test.YtiedaongfjcbhaaMake3
namespace Go.Proofs.Ytiedaongfjcbhaa
open Go.RowKit

def indR (c r a b : Int) : Rule := ⟨⟨#[]⟩, [c], 63, r, a, b⟩
theorem indR_fits {c r a b : Int} (h3 : 0 ≤ c ∧ c < 256) (h4 : 0 ≤ r ∧ r < 256) (h5 : 0 ≤ a ∧ a < 100) (h6 : 0 ≤ b ∧ b < 100) : (indR c r a b).fits :=
  ⟨by show (0 : Nat) < _; decide, by show (1 : Nat) < _; decide, by intro z hz; have : z = c := by simpa [indR] using hz
                                                                    omega, ⟨by show (0 : Int) ≤ 63; decide, by show (63 : Int) < 256; decide⟩, h4, ⟨by show _ ≤ a; omega, by show a ≤ _; omega⟩, ⟨by show _ ≤ b; omega, by show b ≤ _; omega⟩⟩
theorem IsRule.less {lo lo' : Nat} {x : Rule} {v : Value} {w : World} (h : IsRule lo x v w) (hl : lo' ≤ lo) : IsRule lo' x v w := by
  obtain ⟨A, k, e, hs⟩ := h
  exact ⟨A, k, e, hs.less hl⟩
theorem IsCells.new2 (w : World) (z u : Int) : IsCells w.heap.size [z, u] (.slice (some ⟨w.heap.size, 0, none⟩) 2 2) (w.alloc (.cells #[.int .u8 z, .int .u8 u] 64)) :=
  ⟨_, _, rfl, SeqC.mk_ (fun _ => ⟨w.heap.size, 0, rfl, Nat.le_refl _, ⟨_, Blk.new _ _ _⟩, fun j hj => by
    have hB := Blk.new w #[.int .u8 z, .int .u8 u] 64
    rcases (by simp at hj; omega : j = 0 ∨ j = 1) with rfl | rfl
    · exact hB.cell 0
    · exact hB.cell 1⟩) (Nat.le_refl _)⟩
/-- What lies in memory when Base begins to choose. -/
def Pre (w V : World) (z : Nat) (l : Value) : Prop :=
  Blk V w.heap.size 31 #[.int .i64 0, .int .u8 0, .slice none 0 0] ∧ Made V w.heap.size l lettersR ∧ Blk V z 91 #[.int .i64 0, .int .i64 0] ∧ Blk V (z + 1) 91 #[.int .i64 0, .int .i64 1] ∧ Blk V (z + 1 + 1) 91 #[.int .i64 1, .int .i64 1] ∧ Blk V (z + 1 + 1 + 1) 91 #[.int .i64 1, .int .i64 0] ∧ Below w.heap.size w V ∧ w.heap.size < z ∧ z + 4 ≤ V.heap.size
theorem pre_of {w w1 : World} {l : Value} (hm : Made w1 (w.alloc (.cells #[.int .i64 0, .int .u8 0, .slice none 0 0] 31)).heap.size l lettersR) (hb : Below (w.alloc (.cells #[.int .i64 0, .int .u8 0, .slice none 0 0] 31)).heap.size (w.alloc (.cells #[.int .i64 0, .int .u8 0, .slice none 0 0] 31)) w1) :
    Pre w ((((w1.alloc (.cells #[.int .i64 0, .int .i64 0] 91)).alloc (.cells #[.int .i64 0, .int .i64 1] 91)).alloc (.cells #[.int .i64 1, .int .i64 1] 91)).alloc (.cells #[.int .i64 1, .int .i64 0] 91)) w1.heap.size l := by
  have P1 := (Blk.new w #[.int .i64 0, .int .u8 0, .slice none 0 0] 31).keep hb (by simp)
  have hs1 := hb.size
  simp at hs1
  have hB : Below w.heap.size w w1 := ((Below.refl w.heap.size w).alloc (Nat.le_refl _) (.cells #[.int .i64 0, .int .u8 0, .slice none 0 0] 31)).trans (hb.mono (by simp))
  have hM : Made w1 w.heap.size l lettersR := hm.less (by simp)
  have k1 := below_box w1 #[.int .i64 0, .int .i64 0] 91
  have n1 := Blk.new w1 #[.int .i64 0, .int .i64 0] 91
  have s1 : (w1.alloc (.cells #[.int .i64 0, .int .i64 0] 91)).heap.size = w1.heap.size + 1 := by simp
  generalize w1.alloc (.cells #[.int .i64 0, .int .i64 0] 91) = w2 at *
  have k2 := below_box w2 #[.int .i64 0, .int .i64 1] 91
  have n2 := Blk.new w2 #[.int .i64 0, .int .i64 1] 91
  have s2 : (w2.alloc (.cells #[.int .i64 0, .int .i64 1] 91)).heap.size = w2.heap.size + 1 := by simp
  generalize w2.alloc (.cells #[.int .i64 0, .int .i64 1] 91) = w3 at *
  have k3 := below_box w3 #[.int .i64 1, .int .i64 1] 91
  have n3 := Blk.new w3 #[.int .i64 1, .int .i64 1] 91
  have s3 : (w3.alloc (.cells #[.int .i64 1, .int .i64 1] 91)).heap.size = w3.heap.size + 1 := by simp
  generalize w3.alloc (.cells #[.int .i64 1, .int .i64 1] 91) = w4 at *
  have k4 := below_box w4 #[.int .i64 1, .int .i64 0] 91
  have n4 := Blk.new w4 #[.int .i64 1, .int .i64 0] 91
  have s4 : (w4.alloc (.cells #[.int .i64 1, .int .i64 0] 91)).heap.size = w4.heap.size + 1 := by simp
  generalize w4.alloc (.cells #[.int .i64 1, .int .i64 0] 91) = w5 at *
  have n1' := ((n1.keep k2 (by omega)).keep k3 (by omega)).keep k4 (by omega)
  have n2' := (n2.keep k3 (by omega)).keep k4 (by omega)
  have n3' := n3.keep k4 (by omega)
  rw [s1] at n2'
  rw [s2, s1] at n3'
  rw [s3, s2, s1] at n4
  exact ⟨(((P1.keep k1 (by omega)).keep k2 (by omega)).keep k3 (by omega)).keep k4 (by omega), (((hM.keep k1).keep k2).keep k3).keep k4, n1', n2', n3', n4, below_next (below_next (below_next (below_next hB (k1.mono (Nat.le_refl _))) k2) k3) k4, by omega, by omega⟩
theorem ind_pre (w : World) (c a b : Int) : Below w.heap.size w (((w.alloc (.cells #[.int .i64 a, .int .i64 b] 91)).alloc (.cells #[.string ⟨#[]⟩, .slice none 0 0, .int .u8 0, .int .u8 0, .int .i64 0, .int .i64 0] 55)).alloc (.cells #[.int .u8 c] 64)) ∧
    SeqC (((w.alloc (.cells #[.int .i64 a, .int .i64 b] 91)).alloc (.cells #[.string ⟨#[]⟩, .slice none 0 0, .int .u8 0, .int .u8 0, .int .i64 0, .int .i64 0] 55)).alloc (.cells #[.int .u8 c] 64)) w.heap.size (some ⟨w.heap.size + 1 + 1, 0, none⟩) [c] 1 ∧
    Blk (((w.alloc (.cells #[.int .i64 a, .int .i64 b] 91)).alloc (.cells #[.string ⟨#[]⟩, .slice none 0 0, .int .u8 0, .int .u8 0, .int .i64 0, .int .i64 0] 55)).alloc (.cells #[.int .u8 c] 64)) (w.heap.size + 1) 55 #[.string ⟨#[]⟩, .slice none 0 0, .int .u8 0, .int .u8 0, .int .i64 0, .int .i64 0] ∧
    w.heap.size + 2 < (((w.alloc (.cells #[.int .i64 a, .int .i64 b] 91)).alloc (.cells #[.string ⟨#[]⟩, .slice none 0 0, .int .u8 0, .int .u8 0, .int .i64 0, .int .i64 0] 55)).alloc (.cells #[.int .u8 c] 64)).heap.size := by
  have k0 := below_box w #[.int .i64 a, .int .i64 b] 91
  have s0 : (w.alloc (.cells #[.int .i64 a, .int .i64 b] 91)).heap.size = w.heap.size + 1 := by simp
  generalize w.alloc (.cells #[.int .i64 a, .int .i64 b] 91) = w1 at *
  have k1 := below_box w1 #[.string ⟨#[]⟩, .slice none 0 0, .int .u8 0, .int .u8 0, .int .i64 0, .int .i64 0] 55
  have n1 := Blk.new w1 #[.string ⟨#[]⟩, .slice none 0 0, .int .u8 0, .int .u8 0, .int .i64 0, .int .i64 0] 55
  have s1 : (w1.alloc (.cells #[.string ⟨#[]⟩, .slice none 0 0, .int .u8 0, .int .u8 0, .int .i64 0, .int .i64 0] 55)).heap.size = w1.heap.size + 1 := by simp
  generalize w1.alloc (.cells #[.string ⟨#[]⟩, .slice none 0 0, .int .u8 0, .int .u8 0, .int .i64 0, .int .i64 0] 55) = w2 at *
  have k2 := below_box w2 #[.int .u8 c] 64
  have n2 := IsCells.new w2 c
  have s2 : (w2.alloc (.cells #[.int .u8 c] 64)).heap.size = w2.heap.size + 1 := by simp
  generalize w2.alloc (.cells #[.int .u8 c] 64) = w3 at *
  obtain ⟨A, k, e, hs⟩ := n2
  injection e with e e' e''
  subst e e''
  rw [s0] at n1
  rw [s1, s0] at hs
  exact ⟨below_next (below_next k0 k1) k2, hs.less (by omega), n1.keep k2 (by omega), by omega⟩
set_option maxRecDepth 10000 in
set_option maxHeartbeats 400000 in
theorem indicator1_any (c a b : Int) (_hc : 0 ≤ c ∧ c < 256) (w : World) :
    Calls Try.prog 47 #[.int .u8 c, .int .i64 1, .agg #[.int .i64 a, .int .i64 b]] w fun e w' => ∃ v, e = .returned v ∧ IsRule w.heap.size (indR c 2 a b) v w' ∧ Below w.heap.size w w' := by
  go_enter Try.func47, Try.ntmps47
  go_wp2_with fail
  have hP := Lib.hid (ind_pre w c a b)
  generalize ((w.alloc (.cells #[.int .i64 a, .int .i64 b] 91)).alloc (.cells #[.string ⟨#[]⟩, .slice none 0 0, .int .u8 0, .int .u8 0, .int .i64 0, .int .i64 0] 55)).alloc (.cells #[.int .u8 c] 64) = V at *
  refine (simple_any _ _ _ _ _ _ _).mono ?_
  rintro e w1 ⟨rfl, hb⟩
  obtain ⟨hB, hS, hQ, hz⟩ := hP.out
  have hB1 := Lib.hid (below_next hB hb)
  have hS1 := Lib.hid (hS.below hb)
  have hQ1 := Lib.hid (hQ.keep hb (by omega))
  have hz1 : w.heap.size + 2 < w1.heap.size := by have := hb.size; omega
  clear hP hB hS hQ hb
  have hN := Lib.hid (Blk.new w1 #[.string ⟨#[]⟩, .slice (some ⟨w.heap.size + 1 + 1, 0, none⟩) 1 1, .int .u8 63, .int .u8 2, .int .i64 a, .int .i64 b] 55)
  have hQ2 := Lib.hid (Blk.box (e := 55) (vs := #[.string ⟨#[]⟩, .slice (some ⟨w.heap.size + 1 + 1, 0, none⟩) 1 1, .int .u8 63, .int .u8 2, .int .i64 a, .int .i64 b]) hQ1.out)
  have hB2 := Lib.hid (hB1.out.alloc hB1.out.size (.cells #[.string ⟨#[]⟩, .slice (some ⟨w.heap.size + 1 + 1, 0, none⟩) 1 1, .int .u8 63, .int .u8 2, .int .i64 a, .int .i64 b] 55))
  have hS2 := Lib.hid (hS1.out.below (below_box w1 #[.string ⟨#[]⟩, .slice (some ⟨w.heap.size + 1 + 1, 0, none⟩) 1 1, .int .u8 63, .int .u8 2, .int .i64 a, .int .i64 b] 55))
  obtain ⟨q, hq⟩ : ∃ q, w1.heap.size = q := ⟨_, rfl⟩
  rw [hq] at hN
  clear hS1 hQ1 hB1
  have x0 := hN.out.cell 0
  have x1 := hN.out.cell 1
  have x2 := hN.out.cell 2
  have x3 := hN.out.cell 3
  have x4 := hN.out.cell 4
  have x5 := hN.out.cell 5
  have y3 := hN.out.free 3
  have r0 := hQ2.out.cell 0
  have r1 := hQ2.out.cell 1
  have r2 := hQ2.out.cell 2
  have r3 := hQ2.out.cell 3
  have r4 := hQ2.out.cell 4
  have r5 := hQ2.out.cell 5
  have s0 := hQ2.out.free 0
  have s1 := hQ2.out.free 1
  have s2 := hQ2.out.free 2
  have s3 := hQ2.out.free 3
  have s4 := hQ2.out.free 4
  have s5 := hQ2.out.free 5
  simp only [List.getElem?_toArray, List.getElem?_cons_zero, List.getElem?_cons_succ] at x0 x1 x2 x3 x4 x5 r0 r1 r2 r3 r4 r5
  go_wp2_with fail
  generalize w1.alloc (.cells #[.string ⟨#[]⟩, .slice (some ⟨w.heap.size + 1 + 1, 0, none⟩) 1 1, .int .u8 63, .int .u8 2, .int .i64 a, .int .i64 b] 55) = X at *
  refine bodyPost_ret (v := .agg #[.string ⟨#[]⟩, .slice (some ⟨w.heap.size + 1 + 1, 0, none⟩) 1 1, .int .u8 63, .int .u8 2, .int .i64 a, .int .i64 b]) (by simp [results, Try.results47, go_sem, r0, r1, r2, r3, r4, r5]) rfl ⟨_, rfl, ⟨_, _, rfl, ?_⟩, ?_⟩
  · exact (((((hS2.out.set hQ2.out (by decide) _).set (hQ2.out.set 0 _) (by decide) _).set ((hQ2.out.set 0 _).set 1 _) (by decide) _).set (((hQ2.out.set 0 _).set 1 _).set 2 _) (by decide) _).set ((((hQ2.out.set 0 _).set 1 _).set 2 _).set 3 _) (by decide) _).set (((((hQ2.out.set 0 _).set 1 _).set 2 _).set 3 _).set 4 _) (by decide) _
  · exact (((((hB2.out.setCell (by show w.heap.size ≤ w.heap.size + 1; omega) _).setCell (by show w.heap.size ≤ w.heap.size + 1; omega) _).setCell (by show w.heap.size ≤ w.heap.size + 1; omega) _).setCell (by show w.heap.size ≤ w.heap.size + 1; omega) _).setCell (by show w.heap.size ≤ w.heap.size + 1; omega) _).setCell (by show w.heap.size ≤ w.heap.size + 1; omega) _
set_option maxRecDepth 10000 in
set_option maxHeartbeats 400000 in
theorem indicator2_any (c a b : Int) (_hc : 0 ≤ c ∧ c < 256) (w : World) :
    Calls Try.prog 47 #[.int .u8 c, .int .i64 2, .agg #[.int .i64 a, .int .i64 b]] w fun e w' => ∃ v, e = .returned v ∧ IsRule w.heap.size (indR c 4 a b) v w' ∧ Below w.heap.size w w' := by
  go_enter Try.func47, Try.ntmps47
  go_wp2_with fail
  have hP := Lib.hid (ind_pre w c a b)
  generalize ((w.alloc (.cells #[.int .i64 a, .int .i64 b] 91)).alloc (.cells #[.string ⟨#[]⟩, .slice none 0 0, .int .u8 0, .int .u8 0, .int .i64 0, .int .i64 0] 55)).alloc (.cells #[.int .u8 c] 64) = V at *
  refine (simple_any _ _ _ _ _ _ _).mono ?_
  rintro e w1 ⟨rfl, hb⟩
  obtain ⟨hB, hS, hQ, hz⟩ := hP.out
  have hB1 := Lib.hid (below_next hB hb)
  have hS1 := Lib.hid (hS.below hb)
  have hQ1 := Lib.hid (hQ.keep hb (by omega))
  have hz1 : w.heap.size + 2 < w1.heap.size := by have := hb.size; omega
  clear hP hB hS hQ hb
  have hN := Lib.hid (Blk.new w1 #[.string ⟨#[]⟩, .slice (some ⟨w.heap.size + 1 + 1, 0, none⟩) 1 1, .int .u8 63, .int .u8 4, .int .i64 a, .int .i64 b] 55)
  have hQ2 := Lib.hid (Blk.box (e := 55) (vs := #[.string ⟨#[]⟩, .slice (some ⟨w.heap.size + 1 + 1, 0, none⟩) 1 1, .int .u8 63, .int .u8 4, .int .i64 a, .int .i64 b]) hQ1.out)
  have hB2 := Lib.hid (hB1.out.alloc hB1.out.size (.cells #[.string ⟨#[]⟩, .slice (some ⟨w.heap.size + 1 + 1, 0, none⟩) 1 1, .int .u8 63, .int .u8 4, .int .i64 a, .int .i64 b] 55))
  have hS2 := Lib.hid (hS1.out.below (below_box w1 #[.string ⟨#[]⟩, .slice (some ⟨w.heap.size + 1 + 1, 0, none⟩) 1 1, .int .u8 63, .int .u8 4, .int .i64 a, .int .i64 b] 55))
  obtain ⟨q, hq⟩ : ∃ q, w1.heap.size = q := ⟨_, rfl⟩
  rw [hq] at hN
  clear hS1 hQ1 hB1
  have x0 := hN.out.cell 0
  have x1 := hN.out.cell 1
  have x2 := hN.out.cell 2
  have x3 := hN.out.cell 3
  have x4 := hN.out.cell 4
  have x5 := hN.out.cell 5
  have y3 := hN.out.free 3
  have r0 := hQ2.out.cell 0
  have r1 := hQ2.out.cell 1
  have r2 := hQ2.out.cell 2
  have r3 := hQ2.out.cell 3
  have r4 := hQ2.out.cell 4
  have r5 := hQ2.out.cell 5
  have s0 := hQ2.out.free 0
  have s1 := hQ2.out.free 1
  have s2 := hQ2.out.free 2
  have s3 := hQ2.out.free 3
  have s4 := hQ2.out.free 4
  have s5 := hQ2.out.free 5
  simp only [List.getElem?_toArray, List.getElem?_cons_zero, List.getElem?_cons_succ] at x0 x1 x2 x3 x4 x5 r0 r1 r2 r3 r4 r5
  go_wp2_with fail
  generalize w1.alloc (.cells #[.string ⟨#[]⟩, .slice (some ⟨w.heap.size + 1 + 1, 0, none⟩) 1 1, .int .u8 63, .int .u8 4, .int .i64 a, .int .i64 b] 55) = X at *
  refine bodyPost_ret (v := .agg #[.string ⟨#[]⟩, .slice (some ⟨w.heap.size + 1 + 1, 0, none⟩) 1 1, .int .u8 63, .int .u8 4, .int .i64 a, .int .i64 b]) (by simp [results, Try.results47, go_sem, r0, r1, r2, r3, r4, r5]) rfl ⟨_, rfl, ⟨_, _, rfl, ?_⟩, ?_⟩
  · exact (((((hS2.out.set hQ2.out (by decide) _).set (hQ2.out.set 0 _) (by decide) _).set ((hQ2.out.set 0 _).set 1 _) (by decide) _).set (((hQ2.out.set 0 _).set 1 _).set 2 _) (by decide) _).set ((((hQ2.out.set 0 _).set 1 _).set 2 _).set 3 _) (by decide) _).set (((((hQ2.out.set 0 _).set 1 _).set 2 _).set 3 _).set 4 _) (by decide) _
  · exact (((((hB2.out.setCell (by show w.heap.size ≤ w.heap.size + 1; omega) _).setCell (by show w.heap.size ≤ w.heap.size + 1; omega) _).setCell (by show w.heap.size ≤ w.heap.size + 1; omega) _).setCell (by show w.heap.size ≤ w.heap.size + 1; omega) _).setCell (by show w.heap.size ≤ w.heap.size + 1; omega) _).setCell (by show w.heap.size ≤ w.heap.size + 1; omega) _
set_option maxRecDepth 10000 in
set_option maxHeartbeats 400000 in
theorem indicator3_any (c a b : Int) (_hc : 0 ≤ c ∧ c < 256) (w : World) :
    Calls Try.prog 47 #[.int .u8 c, .int .i64 3, .agg #[.int .i64 a, .int .i64 b]] w fun e w' => ∃ v, e = .returned v ∧ IsRule w.heap.size (indR c 8 a b) v w' ∧ Below w.heap.size w w' := by
  go_enter Try.func47, Try.ntmps47
  go_wp2_with fail
  have hP := Lib.hid (ind_pre w c a b)
  generalize ((w.alloc (.cells #[.int .i64 a, .int .i64 b] 91)).alloc (.cells #[.string ⟨#[]⟩, .slice none 0 0, .int .u8 0, .int .u8 0, .int .i64 0, .int .i64 0] 55)).alloc (.cells #[.int .u8 c] 64) = V at *
  refine (simple_any _ _ _ _ _ _ _).mono ?_
  rintro e w1 ⟨rfl, hb⟩
  obtain ⟨hB, hS, hQ, hz⟩ := hP.out
  have hB1 := Lib.hid (below_next hB hb)
  have hS1 := Lib.hid (hS.below hb)
  have hQ1 := Lib.hid (hQ.keep hb (by omega))
  have hz1 : w.heap.size + 2 < w1.heap.size := by have := hb.size; omega
  clear hP hB hS hQ hb
  have hN := Lib.hid (Blk.new w1 #[.string ⟨#[]⟩, .slice (some ⟨w.heap.size + 1 + 1, 0, none⟩) 1 1, .int .u8 63, .int .u8 8, .int .i64 a, .int .i64 b] 55)
  have hQ2 := Lib.hid (Blk.box (e := 55) (vs := #[.string ⟨#[]⟩, .slice (some ⟨w.heap.size + 1 + 1, 0, none⟩) 1 1, .int .u8 63, .int .u8 8, .int .i64 a, .int .i64 b]) hQ1.out)
  have hB2 := Lib.hid (hB1.out.alloc hB1.out.size (.cells #[.string ⟨#[]⟩, .slice (some ⟨w.heap.size + 1 + 1, 0, none⟩) 1 1, .int .u8 63, .int .u8 8, .int .i64 a, .int .i64 b] 55))
  have hS2 := Lib.hid (hS1.out.below (below_box w1 #[.string ⟨#[]⟩, .slice (some ⟨w.heap.size + 1 + 1, 0, none⟩) 1 1, .int .u8 63, .int .u8 8, .int .i64 a, .int .i64 b] 55))
  obtain ⟨q, hq⟩ : ∃ q, w1.heap.size = q := ⟨_, rfl⟩
  rw [hq] at hN
  clear hS1 hQ1 hB1
  have x0 := hN.out.cell 0
  have x1 := hN.out.cell 1
  have x2 := hN.out.cell 2
  have x3 := hN.out.cell 3
  have x4 := hN.out.cell 4
  have x5 := hN.out.cell 5
  have y3 := hN.out.free 3
  have r0 := hQ2.out.cell 0
  have r1 := hQ2.out.cell 1
  have r2 := hQ2.out.cell 2
  have r3 := hQ2.out.cell 3
  have r4 := hQ2.out.cell 4
  have r5 := hQ2.out.cell 5
  have s0 := hQ2.out.free 0
  have s1 := hQ2.out.free 1
  have s2 := hQ2.out.free 2
  have s3 := hQ2.out.free 3
  have s4 := hQ2.out.free 4
  have s5 := hQ2.out.free 5
  simp only [List.getElem?_toArray, List.getElem?_cons_zero, List.getElem?_cons_succ] at x0 x1 x2 x3 x4 x5 r0 r1 r2 r3 r4 r5
  go_wp2_with fail
  generalize w1.alloc (.cells #[.string ⟨#[]⟩, .slice (some ⟨w.heap.size + 1 + 1, 0, none⟩) 1 1, .int .u8 63, .int .u8 8, .int .i64 a, .int .i64 b] 55) = X at *
  refine bodyPost_ret (v := .agg #[.string ⟨#[]⟩, .slice (some ⟨w.heap.size + 1 + 1, 0, none⟩) 1 1, .int .u8 63, .int .u8 8, .int .i64 a, .int .i64 b]) (by simp [results, Try.results47, go_sem, r0, r1, r2, r3, r4, r5]) rfl ⟨_, rfl, ⟨_, _, rfl, ?_⟩, ?_⟩
  · exact (((((hS2.out.set hQ2.out (by decide) _).set (hQ2.out.set 0 _) (by decide) _).set ((hQ2.out.set 0 _).set 1 _) (by decide) _).set (((hQ2.out.set 0 _).set 1 _).set 2 _) (by decide) _).set ((((hQ2.out.set 0 _).set 1 _).set 2 _).set 3 _) (by decide) _).set (((((hQ2.out.set 0 _).set 1 _).set 2 _).set 3 _).set 4 _) (by decide) _
  · exact (((((hB2.out.setCell (by show w.heap.size ≤ w.heap.size + 1; omega) _).setCell (by show w.heap.size ≤ w.heap.size + 1; omega) _).setCell (by show w.heap.size ≤ w.heap.size + 1; omega) _).setCell (by show w.heap.size ≤ w.heap.size + 1; omega) _).setCell (by show w.heap.size ≤ w.heap.size + 1; omega) _).setCell (by show w.heap.size ≤ w.heap.size + 1; omega) _
end Go.Proofs.Ytiedaongfjcbhaa
