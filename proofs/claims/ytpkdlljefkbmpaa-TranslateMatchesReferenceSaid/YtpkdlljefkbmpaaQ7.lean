/- Merged by program: Make5 -/
import Derived.Test.YtpkdlljefkbmpaaQ6

/-! Reference of the tables: Base(1), (2), (3), (6), (7). -/
namespace Go.Proofs.Ytpkdlljefkbmpaa
open Go.RowKit

def new1R : List Rule := [indR 60 8 0 1, simpleR (strOf [49]) [1] 1 1, simpleR (strOf [50]) [3] 1 1, simpleR (strOf [32]) [0] 1 0]
def phiBase1 (l : Value) (lo : Nat) (i : Nat) (v : Value) (w' : World) : Prop := match i with
 | 0 => v = l
 | 1 => v = .agg #[.int .i64 0, .int .i64 1]
 | 2 => IsRule lo (indR 60 8 0 1) v w'
 | 3 => IsCells lo [1] v w'
 | 4 => v = .agg #[.int .i64 1, .int .i64 1]
 | 5 => IsRule lo (simpleR (strOf [49]) [1] 1 1) v w'
 | 6 => IsCells lo [3] v w'
 | 7 => v = .agg #[.int .i64 1, .int .i64 1]
 | 8 => IsRule lo (simpleR (strOf [50]) [3] 1 1) v w'
 | 9 => IsCells lo [0] v w'
 | 10 => v = .agg #[.int .i64 1, .int .i64 0]
 | 11 => IsRule lo (simpleR (strOf [32]) [0] 1 0) v w'
 | 12 => NewR lo new1R v w'
 | _ => True
set_option maxRecDepth 20000 in
set_option maxHeartbeats 4000000 in
theorem base1_any (kk : Int) (h0 : 0 ≤ kk) (h1 : kk < 256) (hk : kk % 8 = 1) (w : World) : Calls Try.prog 51 #[.int .u8 kk] w (TableEnd 2 3 (lettersR ++ new1R) w) := by
 go_enter Try.func51, Try.ntmps51
 go_wp2_with fail
 refine (letters_any _).mono ?_
 rintro e w1 ⟨v, rfl, hm, hb⟩
 have HP := Lib.hid (pre_of hm hb)
 obtain ⟨A, k, vals, rfl, _⟩ := hm
 clear hb
 go_wp2_with fail
 rw [hk]
 generalize w1.heap.size = z at *
 generalize (((w1.alloc (.cells #[.int .i64 0, .int .i64 0] 157)).alloc (.cells #[.int .i64 0, .int .i64 1] 157)).alloc (.cells #[.int .i64 1, .int .i64 1] 157)).alloc (.cells #[.int .i64 1, .int .i64 0] 157) = V at *
 obtain ⟨hP2, hM, hB4, hB5, hB6, hB7, hBB, hz, hV⟩ := HP.out
 clear HP
 generalize hl : Value.slice A lettersR.length k = l at *
 refine wp_region_app 13 (by kernel_rfl) (fun y u => .int .u8 kk :: undef :: .pointer (some ⟨w.heap.size, 0, none⟩) :: u :: .pointer (some ⟨z, 0, none⟩) :: .pointer (some ⟨z + 1, 0, none⟩) :: .pointer (some ⟨z + 1 + 1, 0, none⟩) :: .pointer (some ⟨z + 1 + 1 + 1, 0, none⟩) :: undef :: undef :: l :: .agg #[.int .i64 0, .int .i64 0] :: .agg #[.int .i64 0, .int .i64 1] :: .agg #[.int .i64 1, .int .i64 1] :: .agg #[.int .i64 1, .int .i64 0] :: .int .u8 kk :: .int .u8 1 :: .bool true :: .bool true :: y 0 :: y 1 :: y 2 :: y 3 :: y 4 :: y 5 :: y 6 :: y 7 :: y 8 :: y 9 :: y 10 :: y 11 :: y 12 :: y 13 :: undef :: undef :: undef :: undef :: undef :: undef :: undef :: undef :: undef :: undef :: undef :: undef :: undef :: undef :: undef :: undef :: undef :: undef :: undef :: undef :: undef :: undef :: undef :: undef :: undef :: undef :: undef :: undef :: undef :: undef :: undef :: undef :: undef :: undef :: undef :: undef :: undef :: undef :: undef :: undef :: undef :: undef :: undef :: undef :: undef :: undef :: undef :: undef :: undef :: undef :: undef :: undef :: undef :: undef :: undef :: undef :: undef :: undef :: undef :: undef :: undef :: undef :: undef :: undef :: undef :: undef :: undef :: undef :: undef :: undef :: undef :: undef :: undef :: undef :: undef :: undef :: undef :: undef :: undef :: undef :: undef :: undef :: undef :: undef :: undef :: undef :: undef :: undef :: []) l
  (fun w' => Below V.heap.size V w') (phiBase1 l w.heap.size) (fun v w' => MadeB w' w.heap.size w.heap.size v (lettersR ++ new1R) ∧ Blk w' w.heap.size 30 #[.int .i64 0, .int .u8 0, .slice none 0 0] ∧ Below w.heap.size w w') (fun _ => undef)
  (by kernel_rfl) (by kernel_rfl) (by kernel_rfl) (by kernel_rfl) ?_ (Below.refl _ _).drew [0, 1, 2, 3, 4, 5, 6, 7, 8, 9, 10, 11, 12] (by kernel_rfl) ?_ ?_ ?_ ?_
 ·
  intro i v w1 w2 h hb
  unfold phiBase1 at h ⊢
  split at h <;> first | exact IsCells.keep h hb | exact IsRule.keep h hb | exact NewR.keep h hb | exact h
 ·
  refine allCons ?_ (allCons ?_ (allCons ?_ (allCons ?_ (allCons ?_ (allCons ?_ (allCons ?_ (allCons ?_ (allCons ?_ (allCons ?_ (allCons ?_ (allCons ?_ (allCons ?_ (allNil)))))))))))))
  all_goals intro y w' K hS hd hK
  ·
   refine wpOp_step rfl (fun K2 hK2 => ?_)
   go_simp
   exact hK2 _ _ (hK _ _ hS rfl (Below.refl _ _))
  ·
   have hq : z + 1 < V.heap.size := by omega
   have hQ := Blk.keep hB5 hS hq
   have c0 := hQ.cell 0
   have c1 := hQ.cell 1
   simp at c0 c1
   refine wpOp_step rfl (fun K2 hK2 => ?_)
   go_simp
   exact hK2 _ _ (hK _ _ hS rfl (Below.refl _ _))
  ·
   have e2 : y 1 = _ := hd 1 rfl
   obtain ⟨y, rfl⟩ := upd_at (y := y) (i := 1) e2
   dsimp [upd]
   refine wpOp_step rfl (fun K2 hK2 => ?_)
   go_simp
   refine (indicator3_any _ _ _ (by decide) _).mono ?_
   rintro e' w2 ⟨v2, rfl, hr, hb⟩
   exact hK2 _ _ (hK _ _ (below_next hS hb) (hr.less (by have := hS.size; omega)) hb)
  ·
   refine wpOp_step rfl (fun K2 hK2 => ?_)
   go_simp
   exact hK2 _ _ (hK _ _ (hS.alloc hS.size _) ((IsCells.new w' 1).less (by have := hS.size; omega)) ((Below.refl _ _).alloc (Nat.le_refl _) _))
  ·
   have hq : z + 1 + 1 < V.heap.size := by omega
   have hQ := Blk.keep hB6 hS hq
   have c0 := hQ.cell 0
   have c1 := hQ.cell 1
   simp at c0 c1
   refine wpOp_step rfl (fun K2 hK2 => ?_)
   go_simp
   exact hK2 _ _ (hK _ _ hS rfl (Below.refl _ _))
  ·
   obtain ⟨A', k', e, hs⟩ := hd 3 rfl
   have e2 : y 4 = _ := hd 4 rfl
   obtain ⟨y, rfl⟩ := upd_at e
   obtain ⟨y, rfl⟩ := upd_at (y := y) (i := 4) e2
   dsimp [upd]
   refine wpOp_step rfl (fun K2 hK2 => ?_)
   go_simp
   refine (simple_any _ _ _ _ _ _ _).mono ?_
   rintro e' w2 ⟨rfl, hb⟩
   exact hK2 _ _ (hK _ _ (below_next hS hb) ⟨A', k', rfl, hs.below hb⟩ hb)
  ·
   refine wpOp_step rfl (fun K2 hK2 => ?_)
   go_simp
   exact hK2 _ _ (hK _ _ (hS.alloc hS.size _) ((IsCells.new w' 3).less (by have := hS.size; omega)) ((Below.refl _ _).alloc (Nat.le_refl _) _))
  ·
   have hq : z + 1 + 1 < V.heap.size := by omega
   have hQ := Blk.keep hB6 hS hq
   have c0 := hQ.cell 0
   have c1 := hQ.cell 1
   simp at c0 c1
   refine wpOp_step rfl (fun K2 hK2 => ?_)
   go_simp
   exact hK2 _ _ (hK _ _ hS rfl (Below.refl _ _))
  ·
   obtain ⟨A', k', e, hs⟩ := hd 6 rfl
   have e2 : y 7 = _ := hd 7 rfl
   obtain ⟨y, rfl⟩ := upd_at e
   obtain ⟨y, rfl⟩ := upd_at (y := y) (i := 7) e2
   dsimp [upd]
   refine wpOp_step rfl (fun K2 hK2 => ?_)
   go_simp
   refine (simple_any _ _ _ _ _ _ _).mono ?_
   rintro e' w2 ⟨rfl, hb⟩
   exact hK2 _ _ (hK _ _ (below_next hS hb) ⟨A', k', rfl, hs.below hb⟩ hb)
  ·
   refine wpOp_step rfl (fun K2 hK2 => ?_)
   go_simp
   exact hK2 _ _ (hK _ _ (hS.alloc hS.size _) ((IsCells.new w' 0).less (by have := hS.size; omega)) ((Below.refl _ _).alloc (Nat.le_refl _) _))
  ·
   have hq : z + 1 + 1 + 1 < V.heap.size := by omega
   have hQ := Blk.keep hB7 hS hq
   have c0 := hQ.cell 0
   have c1 := hQ.cell 1
   simp at c0 c1
   refine wpOp_step rfl (fun K2 hK2 => ?_)
   go_simp
   exact hK2 _ _ (hK _ _ hS rfl (Below.refl _ _))
  ·
   obtain ⟨A', k', e, hs⟩ := hd 9 rfl
   have e2 : y 10 = _ := hd 10 rfl
   obtain ⟨y, rfl⟩ := upd_at e
   obtain ⟨y, rfl⟩ := upd_at (y := y) (i := 10) e2
   dsimp [upd]
   refine wpOp_step rfl (fun K2 hK2 => ?_)
   go_simp
   refine (simple_any _ _ _ _ _ _ _).mono ?_
   rintro e' w2 ⟨rfl, hb⟩
   exact hK2 _ _ (hK _ _ (below_next hS hb) ⟨A', k', rfl, hs.below hb⟩ hb)
  ·
   obtain ⟨A0, k0, e0, h10⟩ := hd 2 rfl
   obtain ⟨A1, k1, e1, h11⟩ := hd 5 rfl
   obtain ⟨A2, k2, e2, h12⟩ := hd 8 rfl
   obtain ⟨A3, k3, e3, h13⟩ := hd 11 rfl
   have hm := NewR.lit (((((RulesW.nil).snoc (k := k0) h10 (indR_fits (by decide) (by decide) (by decide) (by decide))).snoc (k := k1) h11 (simpleR_fits (by decide) (by decide) (by decide) (by decide) (by decide))).snoc (k := k2) h12 (simpleR_fits (by decide) (by decide) (by decide) (by decide) (by decide))).snoc (k := k3) h13 (simpleR_fits (by decide) (by decide) (by decide) (by decide) (by decide)))
   obtain ⟨y, rfl⟩ := upd_at (y := y) (i := 2) e0
   obtain ⟨y, rfl⟩ := upd_at (y := y) (i := 5) e1
   obtain ⟨y, rfl⟩ := upd_at (y := y) (i := 8) e2
   obtain ⟨y, rfl⟩ := upd_at (y := y) (i := 11) e3
   dsimp [upd]
   refine wpOp_step rfl (fun K2 hK2 => ?_)
   go_simp
   exact hK2 _ _ (hK _ _ (hS.alloc hS.size _) hm ((Below.refl _ _).alloc (Nat.le_refl _) _))
 ·
  intro y w' K hS hd hK
  have e0 : y 0 = l := hd 0 (by decide)
  have hn : NewR w.heap.size new1R (y 12) w' := hd 12 (by decide)
  have hsz := hS.size
  refine wpOp_append_made rfl rfl _ _ rfl w.heap.size w.heap.size l (y 12) lettersR new1R e0 (MadeB.keep (Made.b hM) hS) rfl hn (by decide) (by decide) (by omega) ?_
  intro v' w2 h2 hO
  exact hK _ _ ⟨h2, hO.blk (hP2.keep hS (by omega)) (by decide), hBB.trans ((hS.mono (by omega)).trans (hO.below (by omega)))⟩
 ·
  intro y w' K hK
  refine wpOp_step rfl (fun K2 hK2 => ?_)
  go_simp
  exact hK2 _ _ hK
 ·
  intro y w' hT
  obtain ⟨hMm, hQ, hBw⟩ := hT
  obtain ⟨A2, k2, e2, hR2, hk2⟩ := hMm.rules
  rw [e2] at hMm
  obtain ⟨y, rfl⟩ := upd_at (y := y) (i := 13) e2
  dsimp [upd]
  have c0 := hQ.cell 0
  have c1 := hQ.cell 1
  have c2 := hQ.cell 2
  have f0 := hQ.free 0
  have f1 := hQ.free 1
  have f2 := hQ.free 2
  simp only [List.getElem?_toArray, List.getElem?_cons_zero, List.getElem?_cons_succ] at c0 c1 c2
  go_wp2_with fail
  refine bodyPost_ret (v := .agg #[.int .i64 2, .int .u8 3, .slice A2 (lettersR ++ new1R).length k2]) (by simp [results, Try.results51, go_sem, c0, c1, c2]) rfl ⟨_, rfl, ?_, ?_⟩
  ·
   exact MadeB.one (MadeB.set (MadeB.set (MadeB.set hMm hQ (by decide) _) (hQ.set 0 _) (by decide) _) ((hQ.set 0 _).set 1 _) (by decide) _) (Nat.le_refl _)
  ·
   exact ((hBw.setCell (Nat.le_refl _) _).setCell (Nat.le_refl _) _).setCell (Nat.le_refl _) _
def new2R : List Rule := [indR 32 4 0 1, simpleR (strOf [65]) [1] 1 0, simpleR (strOf [66]) [3] 1 0]
def phiBase2 (l : Value) (lo : Nat) (i : Nat) (v : Value) (w' : World) : Prop := match i with
 | 0 => v = l
 | 1 => v = .agg #[.int .i64 0, .int .i64 1]
 | 2 => IsRule lo (indR 32 4 0 1) v w'
 | 3 => IsCells lo [1] v w'
 | 4 => v = .agg #[.int .i64 1, .int .i64 0]
 | 5 => IsRule lo (simpleR (strOf [65]) [1] 1 0) v w'
 | 6 => IsCells lo [3] v w'
 | 7 => v = .agg #[.int .i64 1, .int .i64 0]
 | 8 => IsRule lo (simpleR (strOf [66]) [3] 1 0) v w'
 | 9 => NewR lo new2R v w'
 | _ => True
set_option maxRecDepth 20000 in
set_option maxHeartbeats 4000000 in
theorem base2_any (kk : Int) (h0 : 0 ≤ kk) (h1 : kk < 256) (hk : kk % 8 = 2) (w : World) : Calls Try.prog 51 #[.int .u8 kk] w (TableEnd 2 1 (lettersR ++ new2R) w) := by
 go_enter Try.func51, Try.ntmps51
 go_wp2_with fail
 refine (letters_any _).mono ?_
 rintro e w1 ⟨v, rfl, hm, hb⟩
 have HP := Lib.hid (pre_of hm hb)
 obtain ⟨A, k, vals, rfl, _⟩ := hm
 clear hb
 go_wp2_with fail
 rw [hk]
 generalize w1.heap.size = z at *
 generalize (((w1.alloc (.cells #[.int .i64 0, .int .i64 0] 157)).alloc (.cells #[.int .i64 0, .int .i64 1] 157)).alloc (.cells #[.int .i64 1, .int .i64 1] 157)).alloc (.cells #[.int .i64 1, .int .i64 0] 157) = V at *
 obtain ⟨hP2, hM, hB4, hB5, hB6, hB7, hBB, hz, hV⟩ := HP.out
 clear HP
 generalize hl : Value.slice A lettersR.length k = l at *
 refine wp_region_app 10 (by kernel_rfl) (fun y u => .int .u8 kk :: undef :: .pointer (some ⟨w.heap.size, 0, none⟩) :: u :: .pointer (some ⟨z, 0, none⟩) :: .pointer (some ⟨z + 1, 0, none⟩) :: .pointer (some ⟨z + 1 + 1, 0, none⟩) :: .pointer (some ⟨z + 1 + 1 + 1, 0, none⟩) :: undef :: undef :: l :: .agg #[.int .i64 0, .int .i64 0] :: .agg #[.int .i64 0, .int .i64 1] :: .agg #[.int .i64 1, .int .i64 1] :: .agg #[.int .i64 1, .int .i64 0] :: .int .u8 kk :: .int .u8 2 :: .bool false :: .bool false :: undef :: undef :: undef :: undef :: undef :: undef :: undef :: undef :: undef :: undef :: undef :: undef :: undef :: undef :: undef :: undef :: .bool true :: .bool true :: y 0 :: y 1 :: y 2 :: y 3 :: y 4 :: y 5 :: y 6 :: y 7 :: y 8 :: y 9 :: y 10 :: undef :: undef :: undef :: undef :: undef :: undef :: undef :: undef :: undef :: undef :: undef :: undef :: undef :: undef :: undef :: undef :: undef :: undef :: undef :: undef :: undef :: undef :: undef :: undef :: undef :: undef :: undef :: undef :: undef :: undef :: undef :: undef :: undef :: undef :: undef :: undef :: undef :: undef :: undef :: undef :: undef :: undef :: undef :: undef :: undef :: undef :: undef :: undef :: undef :: undef :: undef :: undef :: undef :: undef :: undef :: undef :: undef :: undef :: undef :: undef :: undef :: undef :: undef :: undef :: undef :: undef :: undef :: undef :: undef :: undef :: undef :: undef :: undef :: []) l
  (fun w' => Below V.heap.size V w') (phiBase2 l w.heap.size) (fun v w' => MadeB w' w.heap.size w.heap.size v (lettersR ++ new2R) ∧ Blk w' w.heap.size 30 #[.int .i64 0, .int .u8 0, .slice none 0 0] ∧ Below w.heap.size w w') (fun _ => undef)
  (by kernel_rfl) (by kernel_rfl) (by kernel_rfl) (by kernel_rfl) ?_ (Below.refl _ _).drew [0, 1, 2, 3, 4, 5, 6, 7, 8, 9] (by kernel_rfl) ?_ ?_ ?_ ?_
 ·
  intro i v w1 w2 h hb
  unfold phiBase2 at h ⊢
  split at h <;> first | exact IsCells.keep h hb | exact IsRule.keep h hb | exact NewR.keep h hb | exact h
 ·
  refine allCons ?_ (allCons ?_ (allCons ?_ (allCons ?_ (allCons ?_ (allCons ?_ (allCons ?_ (allCons ?_ (allCons ?_ (allCons ?_ (allNil))))))))))
  all_goals intro y w' K hS hd hK
  ·
   refine wpOp_step rfl (fun K2 hK2 => ?_)
   go_simp
   exact hK2 _ _ (hK _ _ hS rfl (Below.refl _ _))
  ·
   have hq : z + 1 < V.heap.size := by omega
   have hQ := Blk.keep hB5 hS hq
   have c0 := hQ.cell 0
   have c1 := hQ.cell 1
   simp at c0 c1
   refine wpOp_step rfl (fun K2 hK2 => ?_)
   go_simp
   exact hK2 _ _ (hK _ _ hS rfl (Below.refl _ _))
  ·
   have e2 : y 1 = _ := hd 1 rfl
   obtain ⟨y, rfl⟩ := upd_at (y := y) (i := 1) e2
   dsimp [upd]
   refine wpOp_step rfl (fun K2 hK2 => ?_)
   go_simp
   refine (indicator2_any _ _ _ (by decide) _).mono ?_
   rintro e' w2 ⟨v2, rfl, hr, hb⟩
   exact hK2 _ _ (hK _ _ (below_next hS hb) (hr.less (by have := hS.size; omega)) hb)
  ·
   refine wpOp_step rfl (fun K2 hK2 => ?_)
   go_simp
   exact hK2 _ _ (hK _ _ (hS.alloc hS.size _) ((IsCells.new w' 1).less (by have := hS.size; omega)) ((Below.refl _ _).alloc (Nat.le_refl _) _))
  ·
   have hq : z + 1 + 1 + 1 < V.heap.size := by omega
   have hQ := Blk.keep hB7 hS hq
   have c0 := hQ.cell 0
   have c1 := hQ.cell 1
   simp at c0 c1
   refine wpOp_step rfl (fun K2 hK2 => ?_)
   go_simp
   exact hK2 _ _ (hK _ _ hS rfl (Below.refl _ _))
  ·
   obtain ⟨A', k', e, hs⟩ := hd 3 rfl
   have e2 : y 4 = _ := hd 4 rfl
   obtain ⟨y, rfl⟩ := upd_at e
   obtain ⟨y, rfl⟩ := upd_at (y := y) (i := 4) e2
   dsimp [upd]
   refine wpOp_step rfl (fun K2 hK2 => ?_)
   go_simp
   refine (simple_any _ _ _ _ _ _ _).mono ?_
   rintro e' w2 ⟨rfl, hb⟩
   exact hK2 _ _ (hK _ _ (below_next hS hb) ⟨A', k', rfl, hs.below hb⟩ hb)
  ·
   refine wpOp_step rfl (fun K2 hK2 => ?_)
   go_simp
   exact hK2 _ _ (hK _ _ (hS.alloc hS.size _) ((IsCells.new w' 3).less (by have := hS.size; omega)) ((Below.refl _ _).alloc (Nat.le_refl _) _))
  ·
   have hq : z + 1 + 1 + 1 < V.heap.size := by omega
   have hQ := Blk.keep hB7 hS hq
   have c0 := hQ.cell 0
   have c1 := hQ.cell 1
   simp at c0 c1
   refine wpOp_step rfl (fun K2 hK2 => ?_)
   go_simp
   exact hK2 _ _ (hK _ _ hS rfl (Below.refl _ _))
  ·
   obtain ⟨A', k', e, hs⟩ := hd 6 rfl
   have e2 : y 7 = _ := hd 7 rfl
   obtain ⟨y, rfl⟩ := upd_at e
   obtain ⟨y, rfl⟩ := upd_at (y := y) (i := 7) e2
   dsimp [upd]
   refine wpOp_step rfl (fun K2 hK2 => ?_)
   go_simp
   refine (simple_any _ _ _ _ _ _ _).mono ?_
   rintro e' w2 ⟨rfl, hb⟩
   exact hK2 _ _ (hK _ _ (below_next hS hb) ⟨A', k', rfl, hs.below hb⟩ hb)
  ·
   obtain ⟨A0, k0, e0, h10⟩ := hd 2 rfl
   obtain ⟨A1, k1, e1, h11⟩ := hd 5 rfl
   obtain ⟨A2, k2, e2, h12⟩ := hd 8 rfl
   have hm := NewR.lit ((((RulesW.nil).snoc (k := k0) h10 (indR_fits (by decide) (by decide) (by decide) (by decide))).snoc (k := k1) h11 (simpleR_fits (by decide) (by decide) (by decide) (by decide) (by decide))).snoc (k := k2) h12 (simpleR_fits (by decide) (by decide) (by decide) (by decide) (by decide)))
   obtain ⟨y, rfl⟩ := upd_at (y := y) (i := 2) e0
   obtain ⟨y, rfl⟩ := upd_at (y := y) (i := 5) e1
   obtain ⟨y, rfl⟩ := upd_at (y := y) (i := 8) e2
   dsimp [upd]
   refine wpOp_step rfl (fun K2 hK2 => ?_)
   go_simp
   exact hK2 _ _ (hK _ _ (hS.alloc hS.size _) hm ((Below.refl _ _).alloc (Nat.le_refl _) _))
 ·
  intro y w' K hS hd hK
  have e0 : y 0 = l := hd 0 (by decide)
  have hn : NewR w.heap.size new2R (y 9) w' := hd 9 (by decide)
  have hsz := hS.size
  refine wpOp_append_made rfl rfl _ _ rfl w.heap.size w.heap.size l (y 9) lettersR new2R e0 (MadeB.keep (Made.b hM) hS) rfl hn (by decide) (by decide) (by omega) ?_
  intro v' w2 h2 hO
  exact hK _ _ ⟨h2, hO.blk (hP2.keep hS (by omega)) (by decide), hBB.trans ((hS.mono (by omega)).trans (hO.below (by omega)))⟩
 ·
  intro y w' K hK
  refine wpOp_step rfl (fun K2 hK2 => ?_)
  go_simp
  exact hK2 _ _ hK
 ·
  intro y w' hT
  obtain ⟨hMm, hQ, hBw⟩ := hT
  obtain ⟨A2, k2, e2, hR2, hk2⟩ := hMm.rules
  rw [e2] at hMm
  obtain ⟨y, rfl⟩ := upd_at (y := y) (i := 10) e2
  dsimp [upd]
  have c0 := hQ.cell 0
  have c1 := hQ.cell 1
  have c2 := hQ.cell 2
  have f0 := hQ.free 0
  have f1 := hQ.free 1
  have f2 := hQ.free 2
  simp only [List.getElem?_toArray, List.getElem?_cons_zero, List.getElem?_cons_succ] at c0 c1 c2
  go_wp2_with fail
  refine bodyPost_ret (v := .agg #[.int .i64 2, .int .u8 1, .slice A2 (lettersR ++ new2R).length k2]) (by simp [results, Try.results51, go_sem, c0, c1, c2]) rfl ⟨_, rfl, ?_, ?_⟩
  ·
   exact MadeB.one (MadeB.set (MadeB.set (MadeB.set hMm hQ (by decide) _) (hQ.set 0 _) (by decide) _) ((hQ.set 0 _).set 1 _) (by decide) _) (Nat.le_refl _)
  ·
   exact ((hBw.setCell (Nat.le_refl _) _).setCell (Nat.le_refl _) _).setCell (Nat.le_refl _) _
def new6R : List Rule := [indR 40 2 0 1, simpleR (strOf [225]) [1] 1 0, simpleR (strOf [226]) [3] 1 0]
def phiBase6 (l : Value) (lo : Nat) (i : Nat) (v : Value) (w' : World) : Prop := match i with
 | 0 => v = l
 | 1 => v = .agg #[.int .i64 0, .int .i64 1]
 | 2 => IsRule lo (indR 40 2 0 1) v w'
 | 3 => IsCells lo [1] v w'
 | 4 => v = .agg #[.int .i64 1, .int .i64 0]
 | 5 => IsRule lo (simpleR (strOf [225]) [1] 1 0) v w'
 | 6 => IsCells lo [3] v w'
 | 7 => v = .agg #[.int .i64 1, .int .i64 0]
 | 8 => IsRule lo (simpleR (strOf [226]) [3] 1 0) v w'
 | 9 => NewR lo new6R v w'
 | _ => True
set_option maxRecDepth 20000 in
set_option maxHeartbeats 4000000 in
theorem base6_any (kk : Int) (h0 : 0 ≤ kk) (h1 : kk < 256) (hk : kk % 8 = 6) (w : World) : Calls Try.prog 51 #[.int .u8 kk] w (TableEnd 2 1 (lettersR ++ new6R) w) := by
 go_enter Try.func51, Try.ntmps51
 go_wp2_with fail
 refine (letters_any _).mono ?_
 rintro e w1 ⟨v, rfl, hm, hb⟩
 have HP := Lib.hid (pre_of hm hb)
 obtain ⟨A, k, vals, rfl, _⟩ := hm
 clear hb
 go_wp2_with fail
 rw [hk]
 generalize w1.heap.size = z at *
 generalize (((w1.alloc (.cells #[.int .i64 0, .int .i64 0] 157)).alloc (.cells #[.int .i64 0, .int .i64 1] 157)).alloc (.cells #[.int .i64 1, .int .i64 1] 157)).alloc (.cells #[.int .i64 1, .int .i64 0] 157) = V at *
 obtain ⟨hP2, hM, hB4, hB5, hB6, hB7, hBB, hz, hV⟩ := HP.out
 clear HP
 generalize hl : Value.slice A lettersR.length k = l at *
 refine wp_region_app 10 (by kernel_rfl) (fun y u => .int .u8 kk :: undef :: .pointer (some ⟨w.heap.size, 0, none⟩) :: u :: .pointer (some ⟨z, 0, none⟩) :: .pointer (some ⟨z + 1, 0, none⟩) :: .pointer (some ⟨z + 1 + 1, 0, none⟩) :: .pointer (some ⟨z + 1 + 1 + 1, 0, none⟩) :: undef :: undef :: l :: .agg #[.int .i64 0, .int .i64 0] :: .agg #[.int .i64 0, .int .i64 1] :: .agg #[.int .i64 1, .int .i64 1] :: .agg #[.int .i64 1, .int .i64 0] :: .int .u8 kk :: .int .u8 6 :: .bool false :: .bool false :: undef :: undef :: undef :: undef :: undef :: undef :: undef :: undef :: undef :: undef :: undef :: undef :: undef :: undef :: undef :: undef :: .bool false :: .bool false :: undef :: undef :: undef :: undef :: undef :: undef :: undef :: undef :: undef :: undef :: undef :: undef :: undef :: .bool false :: .bool false :: undef :: undef :: undef :: undef :: undef :: undef :: undef :: undef :: undef :: undef :: undef :: undef :: .bool false :: .bool false :: undef :: undef :: undef :: undef :: undef :: undef :: .bool false :: .bool false :: undef :: undef :: undef :: undef :: undef :: undef :: undef :: undef :: undef :: undef :: undef :: undef :: undef :: undef :: undef :: undef :: .bool true :: .bool true :: y 0 :: y 1 :: y 2 :: y 3 :: y 4 :: y 5 :: y 6 :: y 7 :: y 8 :: y 9 :: y 10 :: undef :: undef :: undef :: undef :: undef :: undef :: undef :: undef :: undef :: undef :: undef :: undef :: undef :: undef :: undef :: undef :: undef :: undef :: []) l
  (fun w' => Below V.heap.size V w') (phiBase6 l w.heap.size) (fun v w' => MadeB w' w.heap.size w.heap.size v (lettersR ++ new6R) ∧ Blk w' w.heap.size 30 #[.int .i64 0, .int .u8 0, .slice none 0 0] ∧ Below w.heap.size w w') (fun _ => undef)
  (by kernel_rfl) (by kernel_rfl) (by kernel_rfl) (by kernel_rfl) ?_ (Below.refl _ _).drew [0, 1, 2, 3, 4, 5, 6, 7, 8, 9] (by kernel_rfl) ?_ ?_ ?_ ?_
 ·
  intro i v w1 w2 h hb
  unfold phiBase6 at h ⊢
  split at h <;> first | exact IsCells.keep h hb | exact IsRule.keep h hb | exact NewR.keep h hb | exact h
 ·
  refine allCons ?_ (allCons ?_ (allCons ?_ (allCons ?_ (allCons ?_ (allCons ?_ (allCons ?_ (allCons ?_ (allCons ?_ (allCons ?_ (allNil))))))))))
  all_goals intro y w' K hS hd hK
  ·
   refine wpOp_step rfl (fun K2 hK2 => ?_)
   go_simp
   exact hK2 _ _ (hK _ _ hS rfl (Below.refl _ _))
  ·
   have hq : z + 1 < V.heap.size := by omega
   have hQ := Blk.keep hB5 hS hq
   have c0 := hQ.cell 0
   have c1 := hQ.cell 1
   simp at c0 c1
   refine wpOp_step rfl (fun K2 hK2 => ?_)
   go_simp
   exact hK2 _ _ (hK _ _ hS rfl (Below.refl _ _))
  ·
   have e2 : y 1 = _ := hd 1 rfl
   obtain ⟨y, rfl⟩ := upd_at (y := y) (i := 1) e2
   dsimp [upd]
   refine wpOp_step rfl (fun K2 hK2 => ?_)
   go_simp
   refine (indicator1_any _ _ _ (by decide) _).mono ?_
   rintro e' w2 ⟨v2, rfl, hr, hb⟩
   exact hK2 _ _ (hK _ _ (below_next hS hb) (hr.less (by have := hS.size; omega)) hb)
  ·
   refine wpOp_step rfl (fun K2 hK2 => ?_)
   go_simp
   exact hK2 _ _ (hK _ _ (hS.alloc hS.size _) ((IsCells.new w' 1).less (by have := hS.size; omega)) ((Below.refl _ _).alloc (Nat.le_refl _) _))
  ·
   have hq : z + 1 + 1 + 1 < V.heap.size := by omega
   have hQ := Blk.keep hB7 hS hq
   have c0 := hQ.cell 0
   have c1 := hQ.cell 1
   simp at c0 c1
   refine wpOp_step rfl (fun K2 hK2 => ?_)
   go_simp
   exact hK2 _ _ (hK _ _ hS rfl (Below.refl _ _))
  ·
   obtain ⟨A', k', e, hs⟩ := hd 3 rfl
   have e2 : y 4 = _ := hd 4 rfl
   obtain ⟨y, rfl⟩ := upd_at e
   obtain ⟨y, rfl⟩ := upd_at (y := y) (i := 4) e2
   dsimp [upd]
   refine wpOp_step rfl (fun K2 hK2 => ?_)
   go_simp
   refine (simple_any _ _ _ _ _ _ _).mono ?_
   rintro e' w2 ⟨rfl, hb⟩
   exact hK2 _ _ (hK _ _ (below_next hS hb) ⟨A', k', rfl, hs.below hb⟩ hb)
  ·
   refine wpOp_step rfl (fun K2 hK2 => ?_)
   go_simp
   exact hK2 _ _ (hK _ _ (hS.alloc hS.size _) ((IsCells.new w' 3).less (by have := hS.size; omega)) ((Below.refl _ _).alloc (Nat.le_refl _) _))
  ·
   have hq : z + 1 + 1 + 1 < V.heap.size := by omega
   have hQ := Blk.keep hB7 hS hq
   have c0 := hQ.cell 0
   have c1 := hQ.cell 1
   simp at c0 c1
   refine wpOp_step rfl (fun K2 hK2 => ?_)
   go_simp
   exact hK2 _ _ (hK _ _ hS rfl (Below.refl _ _))
  ·
   obtain ⟨A', k', e, hs⟩ := hd 6 rfl
   have e2 : y 7 = _ := hd 7 rfl
   obtain ⟨y, rfl⟩ := upd_at e
   obtain ⟨y, rfl⟩ := upd_at (y := y) (i := 7) e2
   dsimp [upd]
   refine wpOp_step rfl (fun K2 hK2 => ?_)
   go_simp
   refine (simple_any _ _ _ _ _ _ _).mono ?_
   rintro e' w2 ⟨rfl, hb⟩
   exact hK2 _ _ (hK _ _ (below_next hS hb) ⟨A', k', rfl, hs.below hb⟩ hb)
  ·
   obtain ⟨A0, k0, e0, h10⟩ := hd 2 rfl
   obtain ⟨A1, k1, e1, h11⟩ := hd 5 rfl
   obtain ⟨A2, k2, e2, h12⟩ := hd 8 rfl
   have hm := NewR.lit ((((RulesW.nil).snoc (k := k0) h10 (indR_fits (by decide) (by decide) (by decide) (by decide))).snoc (k := k1) h11 (simpleR_fits (by decide) (by decide) (by decide) (by decide) (by decide))).snoc (k := k2) h12 (simpleR_fits (by decide) (by decide) (by decide) (by decide) (by decide)))
   obtain ⟨y, rfl⟩ := upd_at (y := y) (i := 2) e0
   obtain ⟨y, rfl⟩ := upd_at (y := y) (i := 5) e1
   obtain ⟨y, rfl⟩ := upd_at (y := y) (i := 8) e2
   dsimp [upd]
   refine wpOp_step rfl (fun K2 hK2 => ?_)
   go_simp
   exact hK2 _ _ (hK _ _ (hS.alloc hS.size _) hm ((Below.refl _ _).alloc (Nat.le_refl _) _))
 ·
  intro y w' K hS hd hK
  have e0 : y 0 = l := hd 0 (by decide)
  have hn : NewR w.heap.size new6R (y 9) w' := hd 9 (by decide)
  have hsz := hS.size
  refine wpOp_append_made rfl rfl _ _ rfl w.heap.size w.heap.size l (y 9) lettersR new6R e0 (MadeB.keep (Made.b hM) hS) rfl hn (by decide) (by decide) (by omega) ?_
  intro v' w2 h2 hO
  exact hK _ _ ⟨h2, hO.blk (hP2.keep hS (by omega)) (by decide), hBB.trans ((hS.mono (by omega)).trans (hO.below (by omega)))⟩
 ·
  intro y w' K hK
  refine wpOp_step rfl (fun K2 hK2 => ?_)
  go_simp
  exact hK2 _ _ hK
 ·
  intro y w' hT
  obtain ⟨hMm, hQ, hBw⟩ := hT
  obtain ⟨A2, k2, e2, hR2, hk2⟩ := hMm.rules
  rw [e2] at hMm
  obtain ⟨y, rfl⟩ := upd_at (y := y) (i := 10) e2
  dsimp [upd]
  have c0 := hQ.cell 0
  have c1 := hQ.cell 1
  have c2 := hQ.cell 2
  have f0 := hQ.free 0
  have f1 := hQ.free 1
  have f2 := hQ.free 2
  simp only [List.getElem?_toArray, List.getElem?_cons_zero, List.getElem?_cons_succ] at c0 c1 c2
  go_wp2_with fail
  refine bodyPost_ret (v := .agg #[.int .i64 2, .int .u8 1, .slice A2 (lettersR ++ new6R).length k2]) (by simp [results, Try.results51, go_sem, c0, c1, c2]) rfl ⟨_, rfl, ?_, ?_⟩
  ·
   exact MadeB.one (MadeB.set (MadeB.set (MadeB.set hMm hQ (by decide) _) (hQ.set 0 _) (by decide) _) ((hQ.set 0 _).set 1 _) (by decide) _) (Nat.le_refl _)
  ·
   exact ((hBw.setCell (Nat.le_refl _) _).setCell (Nat.le_refl _) _).setCell (Nat.le_refl _) _
def new3R : List Rule := [simpleR (strOf [97, 98]) [7] 0 0, simpleR (strOf [97, 98, 99]) [15] 0 0, simpleR (strOf [99, 97]) [4, 4] 0 0]
def phiBase3 (l : Value) (lo : Nat) (i : Nat) (v : Value) (w' : World) : Prop := match i with
 | 0 => v = l
 | 1 => IsCells lo [7] v w'
 | 2 => v = .agg #[.int .i64 0, .int .i64 0]
 | 3 => IsRule lo (simpleR (strOf [97, 98]) [7] 0 0) v w'
 | 4 => IsCells lo [15] v w'
 | 5 => v = .agg #[.int .i64 0, .int .i64 0]
 | 6 => IsRule lo (simpleR (strOf [97, 98, 99]) [15] 0 0) v w'
 | 7 => IsCells lo [4, 4] v w'
 | 8 => v = .agg #[.int .i64 0, .int .i64 0]
 | 9 => IsRule lo (simpleR (strOf [99, 97]) [4, 4] 0 0) v w'
 | 10 => NewR lo new3R v w'
 | _ => True
set_option maxRecDepth 20000 in
set_option maxHeartbeats 4000000 in
theorem base3_any (kk : Int) (h0 : 0 ≤ kk) (h1 : kk < 256) (hk : kk % 8 = 3) (w : World) : Calls Try.prog 51 #[.int .u8 kk] w (TableEnd 1 1 (lettersR ++ new3R) w) := by
 go_enter Try.func51, Try.ntmps51
 go_wp2_with fail
 refine (letters_any _).mono ?_
 rintro e w1 ⟨v, rfl, hm, hb⟩
 have HP := Lib.hid (pre_of hm hb)
 obtain ⟨A, k, vals, rfl, _⟩ := hm
 clear hb
 go_wp2_with fail
 rw [hk]
 generalize w1.heap.size = z at *
 generalize (((w1.alloc (.cells #[.int .i64 0, .int .i64 0] 157)).alloc (.cells #[.int .i64 0, .int .i64 1] 157)).alloc (.cells #[.int .i64 1, .int .i64 1] 157)).alloc (.cells #[.int .i64 1, .int .i64 0] 157) = V at *
 obtain ⟨hP2, hM, hB4, hB5, hB6, hB7, hBB, hz, hV⟩ := HP.out
 clear HP
 generalize hl : Value.slice A lettersR.length k = l at *
 refine wp_region_app 11 (by kernel_rfl) (fun y u => .int .u8 kk :: undef :: .pointer (some ⟨w.heap.size, 0, none⟩) :: u :: .pointer (some ⟨z, 0, none⟩) :: .pointer (some ⟨z + 1, 0, none⟩) :: .pointer (some ⟨z + 1 + 1, 0, none⟩) :: .pointer (some ⟨z + 1 + 1 + 1, 0, none⟩) :: undef :: undef :: l :: .agg #[.int .i64 0, .int .i64 0] :: .agg #[.int .i64 0, .int .i64 1] :: .agg #[.int .i64 1, .int .i64 1] :: .agg #[.int .i64 1, .int .i64 0] :: .int .u8 kk :: .int .u8 3 :: .bool false :: .bool false :: undef :: undef :: undef :: undef :: undef :: undef :: undef :: undef :: undef :: undef :: undef :: undef :: undef :: undef :: undef :: undef :: .bool false :: .bool false :: undef :: undef :: undef :: undef :: undef :: undef :: undef :: undef :: undef :: undef :: undef :: undef :: undef :: .bool true :: .bool true :: y 0 :: y 1 :: y 2 :: y 3 :: y 4 :: y 5 :: y 6 :: y 7 :: y 8 :: y 9 :: y 10 :: y 11 :: undef :: undef :: undef :: undef :: undef :: undef :: undef :: undef :: undef :: undef :: undef :: undef :: undef :: undef :: undef :: undef :: undef :: undef :: undef :: undef :: undef :: undef :: undef :: undef :: undef :: undef :: undef :: undef :: undef :: undef :: undef :: undef :: undef :: undef :: undef :: undef :: undef :: undef :: undef :: undef :: undef :: undef :: undef :: undef :: undef :: undef :: undef :: undef :: undef :: undef :: undef :: undef :: undef :: undef :: undef :: undef :: undef :: []) l
  (fun w' => Below V.heap.size V w') (phiBase3 l w.heap.size) (fun v w' => MadeB w' w.heap.size w.heap.size v (lettersR ++ new3R) ∧ Blk w' w.heap.size 30 #[.int .i64 0, .int .u8 0, .slice none 0 0] ∧ Below w.heap.size w w') (fun _ => undef)
  (by kernel_rfl) (by kernel_rfl) (by kernel_rfl) (by kernel_rfl) ?_ (Below.refl _ _).drew [0, 1, 2, 3, 4, 5, 6, 7, 8, 9, 10] (by kernel_rfl) ?_ ?_ ?_ ?_
 ·
  intro i v w1 w2 h hb
  unfold phiBase3 at h ⊢
  split at h <;> first | exact IsCells.keep h hb | exact IsRule.keep h hb | exact NewR.keep h hb | exact h
 ·
  refine allCons ?_ (allCons ?_ (allCons ?_ (allCons ?_ (allCons ?_ (allCons ?_ (allCons ?_ (allCons ?_ (allCons ?_ (allCons ?_ (allCons ?_ (allNil)))))))))))
  all_goals intro y w' K hS hd hK
  ·
   refine wpOp_step rfl (fun K2 hK2 => ?_)
   go_simp
   exact hK2 _ _ (hK _ _ hS rfl (Below.refl _ _))
  ·
   refine wpOp_step rfl (fun K2 hK2 => ?_)
   go_simp
   exact hK2 _ _ (hK _ _ (hS.alloc hS.size _) ((IsCells.new w' 7).less (by have := hS.size; omega)) ((Below.refl _ _).alloc (Nat.le_refl _) _))
  ·
   have hq : z < V.heap.size := by omega
   have hQ := Blk.keep hB4 hS hq
   have c0 := hQ.cell 0
   have c1 := hQ.cell 1
   simp at c0 c1
   refine wpOp_step rfl (fun K2 hK2 => ?_)
   go_simp
   exact hK2 _ _ (hK _ _ hS rfl (Below.refl _ _))
  ·
   obtain ⟨A', k', e, hs⟩ := hd 1 rfl
   have e2 : y 2 = _ := hd 2 rfl
   obtain ⟨y, rfl⟩ := upd_at e
   obtain ⟨y, rfl⟩ := upd_at (y := y) (i := 2) e2
   dsimp [upd]
   refine wpOp_step rfl (fun K2 hK2 => ?_)
   go_simp
   refine (simple_any _ _ _ _ _ _ _).mono ?_
   rintro e' w2 ⟨rfl, hb⟩
   exact hK2 _ _ (hK _ _ (below_next hS hb) ⟨A', k', rfl, hs.below hb⟩ hb)
  ·
   refine wpOp_step rfl (fun K2 hK2 => ?_)
   go_simp
   exact hK2 _ _ (hK _ _ (hS.alloc hS.size _) ((IsCells.new w' 15).less (by have := hS.size; omega)) ((Below.refl _ _).alloc (Nat.le_refl _) _))
  ·
   have hq : z < V.heap.size := by omega
   have hQ := Blk.keep hB4 hS hq
   have c0 := hQ.cell 0
   have c1 := hQ.cell 1
   simp at c0 c1
   refine wpOp_step rfl (fun K2 hK2 => ?_)
   go_simp
   exact hK2 _ _ (hK _ _ hS rfl (Below.refl _ _))
  ·
   obtain ⟨A', k', e, hs⟩ := hd 4 rfl
   have e2 : y 5 = _ := hd 5 rfl
   obtain ⟨y, rfl⟩ := upd_at e
   obtain ⟨y, rfl⟩ := upd_at (y := y) (i := 5) e2
   dsimp [upd]
   refine wpOp_step rfl (fun K2 hK2 => ?_)
   go_simp
   refine (simple_any _ _ _ _ _ _ _).mono ?_
   rintro e' w2 ⟨rfl, hb⟩
   exact hK2 _ _ (hK _ _ (below_next hS hb) ⟨A', k', rfl, hs.below hb⟩ hb)
  ·
   refine wpOp_step rfl (fun K2 hK2 => ?_)
   go_simp
   exact hK2 _ _ (hK _ _ (hS.alloc hS.size _) ((IsCells.new2 w' 4 4).less (by have := hS.size; omega)) ((Below.refl _ _).alloc (Nat.le_refl _) _))
  ·
   have hq : z < V.heap.size := by omega
   have hQ := Blk.keep hB4 hS hq
   have c0 := hQ.cell 0
   have c1 := hQ.cell 1
   simp at c0 c1
   refine wpOp_step rfl (fun K2 hK2 => ?_)
   go_simp
   exact hK2 _ _ (hK _ _ hS rfl (Below.refl _ _))
  ·
   obtain ⟨A', k', e, hs⟩ := hd 7 rfl
   have e2 : y 8 = _ := hd 8 rfl
   obtain ⟨y, rfl⟩ := upd_at e
   obtain ⟨y, rfl⟩ := upd_at (y := y) (i := 8) e2
   dsimp [upd]
   refine wpOp_step rfl (fun K2 hK2 => ?_)
   go_simp
   refine (simple_any _ _ _ _ _ _ _).mono ?_
   rintro e' w2 ⟨rfl, hb⟩
   exact hK2 _ _ (hK _ _ (below_next hS hb) ⟨A', k', rfl, hs.below hb⟩ hb)
  ·
   obtain ⟨A0, k0, e0, h10⟩ := hd 3 rfl
   obtain ⟨A1, k1, e1, h11⟩ := hd 6 rfl
   obtain ⟨A2, k2, e2, h12⟩ := hd 9 rfl
   have hm := NewR.lit ((((RulesW.nil).snoc (k := k0) h10 (simpleR_fits (by decide) (by decide) (by decide) (by decide) (by decide))).snoc (k := k1) h11 (simpleR_fits (by decide) (by decide) (by decide) (by decide) (by decide))).snoc (k := k2) h12 (simpleR_fits (by decide) (by decide) (by decide) (by decide) (by decide)))
   obtain ⟨y, rfl⟩ := upd_at (y := y) (i := 3) e0
   obtain ⟨y, rfl⟩ := upd_at (y := y) (i := 6) e1
   obtain ⟨y, rfl⟩ := upd_at (y := y) (i := 9) e2
   dsimp [upd]
   refine wpOp_step rfl (fun K2 hK2 => ?_)
   go_simp
   exact hK2 _ _ (hK _ _ (hS.alloc hS.size _) hm ((Below.refl _ _).alloc (Nat.le_refl _) _))
 ·
  intro y w' K hS hd hK
  have e0 : y 0 = l := hd 0 (by decide)
  have hn : NewR w.heap.size new3R (y 10) w' := hd 10 (by decide)
  have hsz := hS.size
  refine wpOp_append_made rfl rfl _ _ rfl w.heap.size w.heap.size l (y 10) lettersR new3R e0 (MadeB.keep (Made.b hM) hS) rfl hn (by decide) (by decide) (by omega) ?_
  intro v' w2 h2 hO
  exact hK _ _ ⟨h2, hO.blk (hP2.keep hS (by omega)) (by decide), hBB.trans ((hS.mono (by omega)).trans (hO.below (by omega)))⟩
 ·
  intro y w' K hK
  refine wpOp_step rfl (fun K2 hK2 => ?_)
  go_simp
  exact hK2 _ _ hK
 ·
  intro y w' hT
  obtain ⟨hMm, hQ, hBw⟩ := hT
  obtain ⟨A2, k2, e2, hR2, hk2⟩ := hMm.rules
  rw [e2] at hMm
  obtain ⟨y, rfl⟩ := upd_at (y := y) (i := 11) e2
  dsimp [upd]
  have c0 := hQ.cell 0
  have c1 := hQ.cell 1
  have c2 := hQ.cell 2
  have f0 := hQ.free 0
  have f1 := hQ.free 1
  have f2 := hQ.free 2
  simp only [List.getElem?_toArray, List.getElem?_cons_zero, List.getElem?_cons_succ] at c0 c1 c2
  go_wp2_with fail
  refine bodyPost_ret (v := .agg #[.int .i64 1, .int .u8 1, .slice A2 (lettersR ++ new3R).length k2]) (by simp [results, Try.results51, go_sem, c0, c1, c2]) rfl ⟨_, rfl, ?_, ?_⟩
  ·
   exact MadeB.one (MadeB.set (MadeB.set (MadeB.set hMm hQ (by decide) _) (hQ.set 0 _) (by decide) _) ((hQ.set 0 _).set 1 _) (by decide) _) (Nat.le_refl _)
  ·
   exact ((hBw.setCell (Nat.le_refl _) _).setCell (Nat.le_refl _) _).setCell (Nat.le_refl _) _
def new7R : List Rule := [simpleR (strOf [45]) [1, 5] 0 0, simpleR (strOf [49]) [5, 5] 0 0, simpleR (strOf [50]) [5, 9] 0 0]
def phiBase7 (l : Value) (lo : Nat) (i : Nat) (v : Value) (w' : World) : Prop := match i with
 | 0 => v = l
 | 1 => IsCells lo [1, 5] v w'
 | 2 => v = .agg #[.int .i64 0, .int .i64 0]
 | 3 => IsRule lo (simpleR (strOf [45]) [1, 5] 0 0) v w'
 | 4 => IsCells lo [5, 5] v w'
 | 5 => v = .agg #[.int .i64 0, .int .i64 0]
 | 6 => IsRule lo (simpleR (strOf [49]) [5, 5] 0 0) v w'
 | 7 => IsCells lo [5, 9] v w'
 | 8 => v = .agg #[.int .i64 0, .int .i64 0]
 | 9 => IsRule lo (simpleR (strOf [50]) [5, 9] 0 0) v w'
 | 10 => NewR lo new7R v w'
 | _ => True
set_option maxRecDepth 20000 in
set_option maxHeartbeats 4000000 in
theorem base7_any (kk : Int) (h0 : 0 ≤ kk) (h1 : kk < 256) (hk : kk % 8 = 7) (w : World) : Calls Try.prog 51 #[.int .u8 kk] w (TableEnd 1 1 (lettersR ++ new7R) w) := by
 go_enter Try.func51, Try.ntmps51
 go_wp2_with fail
 refine (letters_any _).mono ?_
 rintro e w1 ⟨v, rfl, hm, hb⟩
 have HP := Lib.hid (pre_of hm hb)
 obtain ⟨A, k, vals, rfl, _⟩ := hm
 clear hb
 go_wp2_with fail
 rw [hk]
 generalize w1.heap.size = z at *
 generalize (((w1.alloc (.cells #[.int .i64 0, .int .i64 0] 157)).alloc (.cells #[.int .i64 0, .int .i64 1] 157)).alloc (.cells #[.int .i64 1, .int .i64 1] 157)).alloc (.cells #[.int .i64 1, .int .i64 0] 157) = V at *
 obtain ⟨hP2, hM, hB4, hB5, hB6, hB7, hBB, hz, hV⟩ := HP.out
 clear HP
 generalize hl : Value.slice A lettersR.length k = l at *
 refine wp_region_app 11 (by kernel_rfl) (fun y u => .int .u8 kk :: undef :: .pointer (some ⟨w.heap.size, 0, none⟩) :: u :: .pointer (some ⟨z, 0, none⟩) :: .pointer (some ⟨z + 1, 0, none⟩) :: .pointer (some ⟨z + 1 + 1, 0, none⟩) :: .pointer (some ⟨z + 1 + 1 + 1, 0, none⟩) :: undef :: undef :: l :: .agg #[.int .i64 0, .int .i64 0] :: .agg #[.int .i64 0, .int .i64 1] :: .agg #[.int .i64 1, .int .i64 1] :: .agg #[.int .i64 1, .int .i64 0] :: .int .u8 kk :: .int .u8 7 :: .bool false :: .bool false :: undef :: undef :: undef :: undef :: undef :: undef :: undef :: undef :: undef :: undef :: undef :: undef :: undef :: undef :: undef :: undef :: .bool false :: .bool false :: undef :: undef :: undef :: undef :: undef :: undef :: undef :: undef :: undef :: undef :: undef :: undef :: undef :: .bool false :: .bool false :: undef :: undef :: undef :: undef :: undef :: undef :: undef :: undef :: undef :: undef :: undef :: undef :: .bool false :: .bool false :: undef :: undef :: undef :: undef :: undef :: undef :: .bool false :: .bool false :: undef :: undef :: undef :: undef :: undef :: undef :: undef :: undef :: undef :: undef :: undef :: undef :: undef :: undef :: undef :: undef :: .bool false :: .bool false :: undef :: undef :: undef :: undef :: undef :: undef :: undef :: undef :: undef :: undef :: undef :: undef :: undef :: .bool true :: .bool true :: y 0 :: y 1 :: y 2 :: y 3 :: y 4 :: y 5 :: y 6 :: y 7 :: y 8 :: y 9 :: y 10 :: y 11 :: undef :: undef :: []) l
  (fun w' => Below V.heap.size V w') (phiBase7 l w.heap.size) (fun v w' => MadeB w' w.heap.size w.heap.size v (lettersR ++ new7R) ∧ Blk w' w.heap.size 30 #[.int .i64 0, .int .u8 0, .slice none 0 0] ∧ Below w.heap.size w w') (fun _ => undef)
  (by kernel_rfl) (by kernel_rfl) (by kernel_rfl) (by kernel_rfl) ?_ (Below.refl _ _).drew [0, 1, 2, 3, 4, 5, 6, 7, 8, 9, 10] (by kernel_rfl) ?_ ?_ ?_ ?_
 ·
  intro i v w1 w2 h hb
  unfold phiBase7 at h ⊢
  split at h <;> first | exact IsCells.keep h hb | exact IsRule.keep h hb | exact NewR.keep h hb | exact h
 ·
  refine allCons ?_ (allCons ?_ (allCons ?_ (allCons ?_ (allCons ?_ (allCons ?_ (allCons ?_ (allCons ?_ (allCons ?_ (allCons ?_ (allCons ?_ (allNil)))))))))))
  all_goals intro y w' K hS hd hK
  ·
   refine wpOp_step rfl (fun K2 hK2 => ?_)
   go_simp
   exact hK2 _ _ (hK _ _ hS rfl (Below.refl _ _))
  ·
   refine wpOp_step rfl (fun K2 hK2 => ?_)
   go_simp
   exact hK2 _ _ (hK _ _ (hS.alloc hS.size _) ((IsCells.new2 w' 1 5).less (by have := hS.size; omega)) ((Below.refl _ _).alloc (Nat.le_refl _) _))
  ·
   have hq : z < V.heap.size := by omega
   have hQ := Blk.keep hB4 hS hq
   have c0 := hQ.cell 0
   have c1 := hQ.cell 1
   simp at c0 c1
   refine wpOp_step rfl (fun K2 hK2 => ?_)
   go_simp
   exact hK2 _ _ (hK _ _ hS rfl (Below.refl _ _))
  ·
   obtain ⟨A', k', e, hs⟩ := hd 1 rfl
   have e2 : y 2 = _ := hd 2 rfl
   obtain ⟨y, rfl⟩ := upd_at e
   obtain ⟨y, rfl⟩ := upd_at (y := y) (i := 2) e2
   dsimp [upd]
   refine wpOp_step rfl (fun K2 hK2 => ?_)
   go_simp
   refine (simple_any _ _ _ _ _ _ _).mono ?_
   rintro e' w2 ⟨rfl, hb⟩
   exact hK2 _ _ (hK _ _ (below_next hS hb) ⟨A', k', rfl, hs.below hb⟩ hb)
  ·
   refine wpOp_step rfl (fun K2 hK2 => ?_)
   go_simp
   exact hK2 _ _ (hK _ _ (hS.alloc hS.size _) ((IsCells.new2 w' 5 5).less (by have := hS.size; omega)) ((Below.refl _ _).alloc (Nat.le_refl _) _))
  ·
   have hq : z < V.heap.size := by omega
   have hQ := Blk.keep hB4 hS hq
   have c0 := hQ.cell 0
   have c1 := hQ.cell 1
   simp at c0 c1
   refine wpOp_step rfl (fun K2 hK2 => ?_)
   go_simp
   exact hK2 _ _ (hK _ _ hS rfl (Below.refl _ _))
  ·
   obtain ⟨A', k', e, hs⟩ := hd 4 rfl
   have e2 : y 5 = _ := hd 5 rfl
   obtain ⟨y, rfl⟩ := upd_at e
   obtain ⟨y, rfl⟩ := upd_at (y := y) (i := 5) e2
   dsimp [upd]
   refine wpOp_step rfl (fun K2 hK2 => ?_)
   go_simp
   refine (simple_any _ _ _ _ _ _ _).mono ?_
   rintro e' w2 ⟨rfl, hb⟩
   exact hK2 _ _ (hK _ _ (below_next hS hb) ⟨A', k', rfl, hs.below hb⟩ hb)
  ·
   refine wpOp_step rfl (fun K2 hK2 => ?_)
   go_simp
   exact hK2 _ _ (hK _ _ (hS.alloc hS.size _) ((IsCells.new2 w' 5 9).less (by have := hS.size; omega)) ((Below.refl _ _).alloc (Nat.le_refl _) _))
  ·
   have hq : z < V.heap.size := by omega
   have hQ := Blk.keep hB4 hS hq
   have c0 := hQ.cell 0
   have c1 := hQ.cell 1
   simp at c0 c1
   refine wpOp_step rfl (fun K2 hK2 => ?_)
   go_simp
   exact hK2 _ _ (hK _ _ hS rfl (Below.refl _ _))
  ·
   obtain ⟨A', k', e, hs⟩ := hd 7 rfl
   have e2 : y 8 = _ := hd 8 rfl
   obtain ⟨y, rfl⟩ := upd_at e
   obtain ⟨y, rfl⟩ := upd_at (y := y) (i := 8) e2
   dsimp [upd]
   refine wpOp_step rfl (fun K2 hK2 => ?_)
   go_simp
   refine (simple_any _ _ _ _ _ _ _).mono ?_
   rintro e' w2 ⟨rfl, hb⟩
   exact hK2 _ _ (hK _ _ (below_next hS hb) ⟨A', k', rfl, hs.below hb⟩ hb)
  ·
   obtain ⟨A0, k0, e0, h10⟩ := hd 3 rfl
   obtain ⟨A1, k1, e1, h11⟩ := hd 6 rfl
   obtain ⟨A2, k2, e2, h12⟩ := hd 9 rfl
   have hm := NewR.lit ((((RulesW.nil).snoc (k := k0) h10 (simpleR_fits (by decide) (by decide) (by decide) (by decide) (by decide))).snoc (k := k1) h11 (simpleR_fits (by decide) (by decide) (by decide) (by decide) (by decide))).snoc (k := k2) h12 (simpleR_fits (by decide) (by decide) (by decide) (by decide) (by decide)))
   obtain ⟨y, rfl⟩ := upd_at (y := y) (i := 3) e0
   obtain ⟨y, rfl⟩ := upd_at (y := y) (i := 6) e1
   obtain ⟨y, rfl⟩ := upd_at (y := y) (i := 9) e2
   dsimp [upd]
   refine wpOp_step rfl (fun K2 hK2 => ?_)
   go_simp
   exact hK2 _ _ (hK _ _ (hS.alloc hS.size _) hm ((Below.refl _ _).alloc (Nat.le_refl _) _))
 ·
  intro y w' K hS hd hK
  have e0 : y 0 = l := hd 0 (by decide)
  have hn : NewR w.heap.size new7R (y 10) w' := hd 10 (by decide)
  have hsz := hS.size
  refine wpOp_append_made rfl rfl _ _ rfl w.heap.size w.heap.size l (y 10) lettersR new7R e0 (MadeB.keep (Made.b hM) hS) rfl hn (by decide) (by decide) (by omega) ?_
  intro v' w2 h2 hO
  exact hK _ _ ⟨h2, hO.blk (hP2.keep hS (by omega)) (by decide), hBB.trans ((hS.mono (by omega)).trans (hO.below (by omega)))⟩
 ·
  intro y w' K hK
  refine wpOp_step rfl (fun K2 hK2 => ?_)
  go_simp
  exact hK2 _ _ hK
 ·
  intro y w' hT
  obtain ⟨hMm, hQ, hBw⟩ := hT
  obtain ⟨A2, k2, e2, hR2, hk2⟩ := hMm.rules
  rw [e2] at hMm
  obtain ⟨y, rfl⟩ := upd_at (y := y) (i := 11) e2
  dsimp [upd]
  have c0 := hQ.cell 0
  have c1 := hQ.cell 1
  have c2 := hQ.cell 2
  have f0 := hQ.free 0
  have f1 := hQ.free 1
  have f2 := hQ.free 2
  simp only [List.getElem?_toArray, List.getElem?_cons_zero, List.getElem?_cons_succ] at c0 c1 c2
  go_wp2_with fail
  refine bodyPost_ret (v := .agg #[.int .i64 1, .int .u8 1, .slice A2 (lettersR ++ new7R).length k2]) (by simp [results, Try.results51, go_sem, c0, c1, c2]) rfl ⟨_, rfl, ?_, ?_⟩
  ·
   exact MadeB.one (MadeB.set (MadeB.set (MadeB.set hMm hQ (by decide) _) (hQ.set 0 _) (by decide) _) ((hQ.set 0 _).set 1 _) (by decide) _) (Nat.le_refl _)
  ·
   exact ((hBw.setCell (Nat.le_refl _) _).setCell (Nat.le_refl _) _).setCell (Nat.le_refl _) _
end Go.Proofs.Ytpkdlljefkbmpaa
