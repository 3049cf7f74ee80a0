/- Merged by program: Tr12 Tr13 -/
import Derived.Test.YtpkdlljefkbmpaaT1
import Derived.Test.YtpkdlljefkbmpaaT4

/-! Package translate: the closure that meets a place and a mode. -/
namespace Go.Proofs.Ytpkdlljefkbmpaa
open Go.RowKit Go.Maps
set_option maxRecDepth 10000 in
set_option maxHeartbeats 1000000 in
theorem meet_any (B al ab wt n cm M i mo : Nat) (p : Aw) (w : World) (h : AWE B w al ab wt n p) (hcm : Blk w cm 3 #[.int .i64 M]) (hk : i * M + mo < n) (hn : n < 2 ^ 40) (hq : p.2.length < 2 ^ 41) :
  Calls Try.prog 120 #[.int .i64 i, .int .i64 mo, .pointer (some ⟨cm, 0, none⟩), .pointer (some ⟨al, 0, none⟩), .pointer (some ⟨wt, 0, none⟩)] w fun e w' => e = .returned (.tuple #[]) ∧ AWE B w' al ab wt n (wakeL p (i * M + mo)) ∧ Below B w w' := by
 obtain ⟨QV, hA⟩ := h
 obtain ⟨A, cq, rfl⟩ := own_shape hA.hq
 have HA := Lib.hid hA
 have a0 := hA.hal.cell 0
 have m0 := hcm.cell 0
 obtain ⟨k, hke⟩ : ∃ k, i * M + mo = k := ⟨_, rfl⟩
 have hm1 : i * M ≤ k := by omega
 have hw1 : IntKind.i64.wrap ((i : Int) * (M : Int)) = ((i * M : Nat) : Int) := by rw [← Int.natCast_mul]; exact IntWalk.i64_in _ (by omega)
 have hw2 : IntKind.i64.wrap (((i * M : Nat) : Int) + (mo : Int)) = (k : Int) := by rw [← hke, ← Int.natCast_add]; exact IntWalk.i64_in _ (by omega)
 rw [hke] at hk ⊢
 generalize i * M = im at *
 have hkl : k < p.1.length := by have := hA.hlen; omega
 have b0 := hA.hab.cell k
 have f0 := hA.hab.free k
 have t0 := hA.hwt.cell 0
 simp only [List.getElem?_toArray, List.getElem?_cons_zero, List.getElem?_map, List.getElem?_eq_getElem hkl, Option.map_some] at a0 b0 t0 m0
 have hk0 : (0 : Int) ≤ (k : Int) := by omega
 have hkn : (k : Int) < (n : Int) := by omega
 obtain ⟨x, hx⟩ : ∃ x, p.1[k]'hkl = x := ⟨_, rfl⟩
 have hgd : p.1.getD k true = x := by rw [List.getD_eq_getElem?_getD, List.getElem?_eq_getElem hkl, hx]; rfl
 rw [hx] at b0
 have HGD := Lib.hid hgd
 clear hA hx hgd hke hm1 hcm
 cases x
 ·
  have HW := Lib.hid (wakeL_no HGD.out)
  obtain ⟨i0, hi, hz0, hz1, hz2⟩ := info_parts info_int
  go_enter Try.func120, Try.ntmps120
  go_upto_region 3 with fail
  have W1 : Hid (Blk (w.setCell ⟨ab, k, none⟩ (.bool true)) ab 4 ((p.1.set k true).map Value.bool).toArray) := by
   have h := HA.out.hab.set k (.bool true)
   have e : ((p.1.map Value.bool).toArray).setIfInBounds k (.bool true) = ((p.1.set k true).map Value.bool).toArray := by simp [List.map_set]
   rw [e] at h; exact h
  have hne : ab ≠ al := Blk.type_ne HA.out.hab HA.out.hal (by decide)
  have hne2 : ab ≠ wt := Blk.type_ne HA.out.hab HA.out.hwt (by decide)
  have A1 : Hid (Blk (w.setCell ⟨ab, k, none⟩ (.bool true)) al 53 #[.slice (some ⟨ab, 0, none⟩) n n]) := (Below.heap_setCell w ⟨ab, k, none⟩ _ al (fun e => hne e.symm)).trans HA.out.hal
  have T1 : Hid (Blk (w.setCell ⟨ab, k, none⟩ (.bool true)) wt 43 #[.slice A p.2.length cq]) := (Below.heap_setCell w ⟨ab, k, none⟩ _ wt (fun e => hne2 e.symm)).trans HA.out.hwt
  have Q1 : Hid ((w.setCell ⟨ab, k, none⟩ (.bool true)).ownsRow B 3 1 (.slice A p.2.length cq) p.2.length (p.2.map fun i : Nat => Value.int .i64 i)) := own_set (i := k) HA.out.hq HA.out.hab (by decide) _
  have B1 : Hid (Below B w (w.setCell ⟨ab, k, none⟩ (.bool true))) := (Below.refl B w).setCell HA.out.nab _
  generalize w.setCell ⟨ab, k, none⟩ (.bool true) = w1 at *
  clear a0 b0 f0 t0
  have t0 := T1.out.cell 0
  simp only [List.getElem?_toArray, List.getElem?_cons_zero] at t0
  have hM : B ≤ w1.heap.size := by have := HA.out.nal; have := A1.out.lt; omega
  go_wp2_with (at_builtin; refine wpList_append_own_at _ rfl _ _ 43 rfl B 3 i0 (.int .i64 0) 1 8 Try.underlying43 hi hz0 hz1 hz2 rfl (by decide) (.slice A p.2.length cq) p.2.length _ rfl (Q1.out.alloc _) ⟨w1.heap.size, 0, none⟩ 1 1 [.int .i64 k] rfl rfl (cell_one_new _ _ _) (ints_oneCell .i64 [(k : Int)]) (by unfold maxLen; omega) (by omega) (by simp; omega) ?_)
  intro v2 w2 hown2 hgr2 hnil2 hloc2
  obtain ⟨A2, k2, rfl⟩ := own_shape hown2
  have hgr : w1.grownBy w2 (Value.slice A p.2.length cq).ownBlock := (World.grownBy_alloc _ _ _).trans hgr2
  have HT2 : Hid (Blk w2 wt 43 #[.slice A p.2.length cq]) := (hgr.block wt T1.out.lt (own_ne3 Q1.out T1.out (by decide)).symm).trans T1.out
  have HA2 : Hid (Blk w2 al 53 #[.slice (some ⟨ab, 0, none⟩) n n]) := (hgr.block al A1.out.lt (own_ne3 Q1.out A1.out (by decide)).symm).trans A1.out
  have HW2 : Hid (Blk w2 ab 4 ((p.1.set k true).map Value.bool).toArray) := (hgr.block ab W1.out.lt (own_ne3 Q1.out W1.out (by decide)).symm).trans W1.out
  have HO2 := Lib.hid hown2
  have HB2 : Hid (Below B w w2) := B1.out.grown hgr hM (fun q hq => (Q1.out.lt q hq).1)
  have c0 := HT2.out.cell 0
  have f0 := HT2.out.free 0
  simp only [List.getElem?_toArray, List.getElem?_cons_zero] at c0
  clear hown2 hgr2 hnil2 hloc2 hgr t0
  have HE : Hid (AWE B (w2.setCell ⟨wt, 0, none⟩ (.slice A2 (p.2.length + 1) k2)) al ab wt n (wakeL p k) ∧ Below B w (w2.setCell ⟨wt, 0, none⟩ (.slice A2 (p.2.length + 1) k2))) := by
   refine ⟨⟨.slice A2 (p.2.length + 1) k2, ?_⟩, HB2.out.setCell HA.out.nwt _⟩
   rw [HW.out]
   refine ⟨(Below.heap_setCell w2 ⟨wt, 0, none⟩ _ al HA.out.nn).trans HA2.out, (Below.heap_setCell w2 ⟨wt, 0, none⟩ _ ab hne2).trans HW2.out, by simpa using HA.out.hlen, HT2.out.set 0 _, ?_, HA.out.nal, HA.out.nab, HA.out.nwt, HA.out.nn⟩
   have h5 := own_set (i := 0) HO2.out HT2.out (by decide) (.slice A2 (p.2.length + 1) k2)
   simpa using h5
  go_wp2_with fail
  go_end0
  exact ⟨rfl, HE.out⟩
 ·
  have HW := Lib.hid (wakeL_yes HGD.out)
  go_enter Try.func120, Try.ntmps120
  go_wp2_with fail
  go_end0
  exact ⟨rfl, by rw [HW.out]; exact ⟨_, HA.out⟩, Below.refl _ _⟩
theorem own_pop {w : World} {base n k : Nat} {e : TypeId} {A : Option Addr} {xs : List Value} {x : Value} (h : w.ownsRow base e 1 (.slice A (n + 1) k) (n + 1) (xs ++ [x])) (hl : xs.length = n) : w.ownsRow base e 1 (.slice A n k) n xs := by
 obtain ⟨h1, h2⟩ := id h
 refine ⟨by omega, ?_⟩
 rcases h2 with ⟨_, h0⟩ | ⟨g, cap, cur, e1, hg, hblk, hc, hm, hs, ht⟩
 ·
  omega
 ·
  injection e1 with e2 e3 e4
  subst e2 e4
  refine .inr ⟨g, k, cur, rfl, hg, hblk, by omega, hm, hs, ?_⟩
  rw [Nat.mul_one] at ht ⊢
  have h3 : cur.toList.take n = (cur.toList.take (n + 1)).take n := by rw [List.take_take, Nat.min_eq_left (by omega)]
  rw [h3, ht, ← hl, List.take_left]
end Go.Proofs.Ytpkdlljefkbmpaa

/-! Package translate: the greatest place that is reached. -/
namespace Go.Proofs.Ytpkdlljefkbmpaa
open Go.RowKit Go.Maps
theorem own_cap {w : World} {base n k size : Nat} {e : TypeId} {A : Option Addr} {xs : List Value} (h : w.ownsRow base e size (.slice A n k) n xs) : n ≤ k := by
 rcases h.2 with ⟨e1, h0⟩ | ⟨g, cap, cur, e1, _, _, hc, _⟩
 ·
  omega
 ·
  injection e1 with e2 e3 e4
  omega
def RchEnd (rs : List Rule) (l : List Nat) (w : World) (e : Ending) (w' : World) : Prop := ∃ G : Nat, e = .returned (.int .i64 G) ∧ TopP rs l G ∧ Below w.heap.size w w'
set_option maxRecDepth 10000 in
set_option maxHeartbeats 4000000 in
theorem reached_any (w0 : World) (q : Nat) (m a : Int) (A : Option Addr) (n k : Nat) (rs : List Rule) (s : ByteArray) (PV SV : Value) (ps ss : List Nat) (cg M B1 : Nat) (g : Nat → Nat) (h : Tb) (w : World) (hn : rs.length = n) (hG : GoodL m a rs) (hm : 1 ≤ m ∧ m ≤ 8) (hM : m = M) (hmax : n ≤ 64) (hs : s.size < 2 ^ 36)
  (H : WkM w0 q m a A n k rs s PV SV ps ss cg M B1 0 g h w) :
  Calls Try.prog 73 #[.pointer (some ⟨q, 0, none⟩)] w (RchEnd rs (bytes s) w) := by
 subst hn hM
 have HG := Lib.hid hG
 have HH := Lib.hid H
 have w0c := H.wk.cell 0
 simp only [List.getElem?_toArray, List.getElem?_cons_zero] at w0c
 have HBV : Hid (Below w.heap.size w (w.alloc (.cells #[.int .i64 M] 3))) := below_box _ _ _
 have HCM : Hid (Blk (w.alloc (.cells #[.int .i64 M] 3)) w.heap.size 3 #[.int .i64 M]) := Blk.new _ _ _
 have hmf : ∀ (fn : Fn) (first cap : Array Value) (w : World), (Instr.makeFunc fn first cap).run Try.prog w = .ok (.func fn first cap) w := fun _ _ _ _ => rfl
 clear hG H
 go_enter Try.func73, Try.ntmps73
 go_upto_region 2 with fail
 generalize w.alloc (.cells #[.int .i64 M] 3) = V at *
 obtain ⟨cm, hcm⟩ : ∃ cm, w.heap.size = cm := ⟨_, rfl⟩
 rw [hcm] at HCM
 simp only [hcm]
 have HCW := Lib.hid hcm
 clear hcm w0c
 have HV := Lib.hid (HH.out.next HBV.out)
 have w3 := HV.out.wk.cell 3
 have m0 := HCM.out.cell 0
 simp only [List.getElem?_toArray, List.getElem?_cons_zero, List.getElem?_cons_succ] at w3 m0
 obtain ⟨KN, hK0⟩ : ∃ KN, (s.size + 1) * M = KN := ⟨_, rfl⟩
 have hK1 : KN ≤ (s.size + 1) * 8 := by rw [← hK0]; exact Nat.mul_le_mul_left _ (by omega)
 have HKW : Hid (IntKind.i64.wrap (((s.size : Int) + 1) * (M : Int)) = (KN : Int)) := by
  unfold Hid
  rw [← hK0, show ((s.size : Int) + 1) = ((s.size + 1 : Nat) : Int) from by omega, ← Int.natCast_mul]
  exact IntWalk.i64_in _ (by rw [hK0]; omega)
 have HKL : Hid (KN < 2 ^ 40) := by unfold Hid; omega
 have HKE := Lib.hid hK0
 have HS1 : Hid (IntKind.i64.wrap ((s.size : Int) + 1) = (s.size : Int) + 1) := IntWalk.i64_in _ (by omega)
 have HQL := Lib.hid HV.out.wk.lt
 have HCL := Lib.hid HCM.out.lt
 clear hK0 HH
 refine wp_region_head 10 0 (by kernel_rfl) (fun y => (.pointer (some ⟨q, 0, none⟩)) :: undef :: (.int .i64 0) :: (.pointer (some ⟨cm, 0, none⟩)) :: y 9 :: undef :: undef :: undef :: undef :: undef :: undef :: undef :: undef :: undef :: undef :: (.pointer (some ⟨q, 0, none⟩)) :: (.pointer (some ⟨q, 0, none⟩)) :: (.pointer (some ⟨q, 0, none⟩)) :: (.pointer (some ⟨q, 0, none⟩)) :: (.int .i64 ↑M) :: y 0 :: y 1 :: y 2 :: y 3 :: y 4 :: y 5 :: y 6 :: y 7 :: y 8 :: undef :: undef :: undef :: undef :: undef :: undef :: undef :: undef :: undef :: undef :: undef :: undef :: undef :: undef :: undef :: undef :: undef :: undef :: undef :: undef :: undef :: undef :: undef :: undef :: undef :: undef :: undef :: undef :: undef :: undef :: undef :: undef :: undef :: undef :: undef :: undef :: undef :: undef :: undef :: undef :: undef :: undef :: undef :: undef :: undef :: undef :: undef :: undef :: undef :: undef :: undef :: undef :: undef :: undef :: undef :: undef :: undef :: undef :: [])
  (fun _ w' => Below V.heap.size V w') (phiP [pv (.pointer (some ⟨q, 0, none⟩)), pv (.pointer (some ⟨q, 0, none⟩)), pv (.pointer (some ⟨q, 3, none⟩)), pv (.string s), pv (.int .i64 s.size), pv (.int .i64 ((s.size : Int) + 1)), pv (.int .i64 M), pv (.int .i64 KN), pq (fun (ab : Nat) => .slice (some ⟨ab, 0, none⟩) KN KN) (fun (ab : Nat) w => V.heap.size ≤ ab ∧ Blk w ab 4 (Array.replicate KN (.bool false))), pq (fun (al : Nat) => .pointer (some ⟨al, 0, none⟩)) (fun (al : Nat) w => V.heap.size ≤ al ∧ Blk w al 53 #[.slice none 0 0])]) (fun i => match i with | 0 => undef | 1 => undef | 2 => undef | 3 => undef | 4 => undef | 5 => undef | 6 => undef | 7 => undef | 8 => undef | 9 => undef | _ => undef)
  (by kernel_rfl) (by kernel_rfl) (by kernel_rfl) (by kernel_rfl) (fun i v wa wb h hb => phiP_keep (stay_cons (pv_st) (stay_cons (pv_st) (stay_cons (pv_st) (stay_cons (pv_st) (stay_cons (pv_st) (stay_cons (pv_st) (stay_cons (pv_st) (stay_cons (pv_st) (stay_cons (pq_st (fun _ _ _ h hb => ⟨h.1, h.2.keep hb h.2.lt⟩)) (stay_cons (pq_st (fun _ _ _ h hb => ⟨h.1, h.2.keep hb h.2.lt⟩)) stay_nil)))))))))) h hb) (Below.refl _ _).drew [0, 1, 2, 3, 4, 5, 6, 7, 8, 9] (by kernel_rfl) ?_ ?_
 ·
  refine allCons ?_ (allCons ?_ (allCons ?_ (allCons ?_ (allCons ?_ (allCons ?_ (allCons ?_ (allCons ?_ (allCons ?_ (allCons ?_ (allNil))))))))))
  all_goals intro y w10 K hS hd hK
  ·
   refine wpOp_step rfl (fun K2 hK2 => ?_)
   go_simp
   exact hK2 _ _ (hK _ _ hS rfl (Below.refl _ _))
  ·
   have e0 : y 0 = _ := hd 0 rfl
   obtain ⟨y, rfl⟩ := upd_at (y := y) (i := 0) e0
   dsimp [upd]
   refine wpOp_step rfl (fun K2 hK2 => ?_)
   go_simp
   exact hK2 _ _ (hK _ _ hS rfl (Below.refl _ _))
  ·
   have e1 : y 1 = _ := hd 1 rfl
   obtain ⟨y, rfl⟩ := upd_at (y := y) (i := 1) e1
   dsimp [upd]
   refine wpOp_step rfl (fun K2 hK2 => ?_)
   go_simp
   exact hK2 _ _ (hK _ _ hS rfl (Below.refl _ _))
  ·
   have e2 : y 2 = _ := hd 2 rfl
   obtain ⟨y, rfl⟩ := upd_at (y := y) (i := 2) e2
   dsimp [upd]
   have q3 := (hS.cell (p := ⟨q, 3, none⟩) HQL.out).trans w3
   refine wpOp_step rfl (fun K2 hK2 => ?_)
   go_simp
   exact hK2 _ _ (hK _ _ hS rfl (Below.refl _ _))
  ·
   have e3 : y 3 = _ := hd 3 rfl
   obtain ⟨y, rfl⟩ := upd_at (y := y) (i := 3) e3
   dsimp [upd]
   refine wpOp_step rfl (fun K2 hK2 => ?_)
   go_simp
   exact hK2 _ _ (hK _ _ hS rfl (Below.refl _ _))
  ·
   have e4 : y 4 = _ := hd 4 rfl
   obtain ⟨y, rfl⟩ := upd_at (y := y) (i := 4) e4
   dsimp [upd]
   have hw := HS1.out
   refine wpOp_step rfl (fun K2 hK2 => ?_)
   go_simp
   exact hK2 _ _ (hK _ _ hS rfl (Below.refl _ _))
  ·
   have q4 := (hS.cell (p := ⟨cm, 0, none⟩) HCL.out).trans m0
   refine wpOp_step rfl (fun K2 hK2 => ?_)
   go_simp
   exact hK2 _ _ (hK _ _ hS rfl (Below.refl _ _))
  ·
   have e5 : y 5 = _ := hd 5 rfl
   have e6 : y 6 = _ := hd 6 rfl
   obtain ⟨y, rfl⟩ := upd_at (y := y) (i := 5) e5
   obtain ⟨y, rfl⟩ := upd_at (y := y) (i := 6) e6
   dsimp [upd]
   have hw := HKW.out
   refine wpOp_step rfl (fun K2 hK2 => ?_)
   go_simp
   exact hK2 _ _ (hK _ _ hS rfl (Below.refl _ _))
  ·
   have e7 : y 7 = _ := hd 7 rfl
   obtain ⟨y, rfl⟩ := upd_at (y := y) (i := 7) e7
   dsimp [upd]
   have hmk := make_bool w10 KN HKL.out
   refine wpOp_step rfl (fun K2 hK2 => ?_)
   go_simp
   exact hK2 _ _ (hK _ _ (below_next hS (below_box _ _ _)) ⟨w10.heap.size, rfl, hS.size, Blk.new _ _ _⟩ (below_box _ _ _))
  ·
   refine wpOp_step rfl (fun K2 hK2 => ?_)
   go_simp
   exact hK2 _ _ (hK _ _ (below_next hS (below_box _ _ _)) ⟨w10.heap.size, rfl, hS.size, Blk.new _ _ _⟩ (below_box _ _ _))
 ·
  intro y w10 f hS hd
  obtain ⟨ab, e8, hab, hbb⟩ := hd 8 (by decide)
  obtain ⟨al, e9, hal, hbl⟩ := hd 9 (by decide)
  clear hd
  obtain ⟨y, rfl⟩ := upd_at (y := y) (i := 8) e8
  obtain ⟨y, rfl⟩ := upd_at (y := y) (i := 9) e9
  dsimp [upd]
  have c0 := hbl.cell 0
  have f0 := hbl.free 0
  simp only [List.getElem?_toArray, List.getElem?_cons_zero] at c0
  refine wpAny_one (i := 10) (by kernel_rfl) ?_
  refine wpOp_step rfl (fun K2 hK2 => ?_)
  go_simp
  refine hK2 _ _ ?_
  clear hK2 K2 e8 e9
  refine wpAny_done (by kernel_rfl) ?_ _
  clear c0 f0
  have hne : ab ≠ al := Blk.type_ne hbb hbl (by decide)
  have hsz11 : (w10.setCell ⟨al, 0, none⟩ (.slice (some ⟨ab, 0, none⟩) KN KN)).heap.size = w10.heap.size := by simp
  have HB11 : Hid (Below V.heap.size V (w10.setCell ⟨al, 0, none⟩ (.slice (some ⟨ab, 0, none⟩) KN KN))) := hS.setCell hal _
  have HBL : Hid (Blk (w10.setCell ⟨al, 0, none⟩ (.slice (some ⟨ab, 0, none⟩) KN KN)) al 53 #[.slice (some ⟨ab, 0, none⟩) KN KN]) := hbl.set 0 _
  have HBB : Hid (Blk (w10.setCell ⟨al, 0, none⟩ (.slice (some ⟨ab, 0, none⟩) KN KN)) ab 4 ((List.replicate KN false).map Value.bool).toArray) := by
   have h1 : Blk (w10.setCell ⟨al, 0, none⟩ (.slice (some ⟨ab, 0, none⟩) KN KN)) ab 4 (Array.replicate KN (.bool false)) := (Below.heap_setCell w10 ⟨al, 0, none⟩ _ ab hne).trans hbb
   have e : ((List.replicate KN false).map Value.bool).toArray = Array.replicate KN (.bool false) := by simp
   rw [e]; exact h1
  clear hbb hbl hS hsz11 hne
  generalize w10.setCell ⟨al, 0, none⟩ (.slice (some ⟨ab, 0, none⟩) KN KN) = W at *
  have hst : ∀ W : World, Calls Try.prog 93 #[] W fun e w' => e = .returned (.agg #[.int .i64 0, .int .i64 0, .int .u8 63]) ∧ Below W.heap.size W w' := fun W => start_any W
  have hfd := field_mode
  have hbx := below_box W #[.slice none 0 0] 43
  have HAW : Hid (AWE V.heap.size (W.alloc (.cells #[.slice none 0 0] 43)) al ab W.heap.size KN (List.replicate KN false, [])) := ⟨.slice none 0 0, HBL.out.keep hbx HBL.out.lt, HBB.out.keep hbx HBB.out.lt, by simp, Blk.new _ _ _, World.ownsRow_nil _ _ _ _, hal, hab, HB11.out.size, by have := HBL.out.lt; omega⟩
  have HBW : Hid (Below V.heap.size V (W.alloc (.cells #[.slice none 0 0] 43))) := below_next HB11.out hbx
  clear hbx HBL HBB HB11
  go_wp2_with fail
  refine (hst _).mono ?_
  rintro e wa ⟨rfl, hba⟩
  have HA2 := Lib.hid (HAW.out.below hba)
  have HB2 := Lib.hid (below_next HBW.out hba)
  clear hba HAW HBW hst hmf
  obtain ⟨wt, hwt⟩ : ∃ wt, W.heap.size = wt := ⟨_, rfl⟩
  rw [hwt] at HA2
  simp only [hwt]
  clear hwt
  have hKp : 0 < KN := by rw [← HKE.out]; exact Nat.mul_pos (by omega) (by omega)
  have HCA : Hid (Blk wa cm 3 #[.int .i64 M]) := HCM.out.keep HB2.out HCL.out
  have HM0 : Hid (Calls Try.prog 120 #[.int .i64 0, .int .i64 0, .pointer (some ⟨cm, 0, none⟩), .pointer (some ⟨al, 0, none⟩), .pointer (some ⟨wt, 0, none⟩)] wa fun e w' => e = .returned (.tuple #[]) ∧ AWE V.heap.size w' al ab wt KN (wakeL (List.replicate KN false, []) 0) ∧ Below V.heap.size wa w') := by
   have h1 := meet_any V.heap.size al ab wt KN cm M 0 0 (List.replicate KN false, []) wa HA2.out HCA.out (by omega) HKL.out (by simp)
   rw [Nat.zero_mul] at h1
   exact h1
  go_wp2_with fail
  refine HM0.out.mono ?_
  clear HM0
  rintro e wb ⟨rfl, haw, hbb⟩
  have HA3 := Lib.hid haw
  have HB3 : Hid (Below V.heap.size V wb) := HB2.out.trans hbb
  have hMp : 1 ≤ M := by omega
  have HR0 : Hid (RcI rs (bytes s) M (wakeL (List.replicate KN false, []) 0) 0 (fun _ => False)) := by
   have h1 := rc_start (rs := rs) (l := bytes s) hMp
   rw [bytes_len, HKE.out] at h1
   exact h1
  have HM0 : Hid (muP (wakeL (List.replicate KN false, []) 0) ≤ 2 * KN) := by
   refine Nat.le_trans (mu_wake _ _) ?_
   unfold muP
   simp
  clear haw hbb HA2 HB2 HCA hfd
  go_wp2_with fail
  go_loopg [7] (muP (wakeL (List.replicate KN false, []) 0)) (fun gk s7 wx => ∃ (p : Aw) (G : Nat), gk = muP p ∧ s7 = .int .i64 G ∧ RcI rs (bytes s) M p G (fun _ => False) ∧ muP p ≤ 2 * KN ∧ AWE V.heap.size wx al ab wt KN p ∧ Below V.heap.size V wx)
  case atStart => exact ⟨_, 0, rfl, rfl, HR0.out, HM0.out, HA3.out, HB3.out⟩
  case round =>
   obtain ⟨p, G, hgk, rfl, hrc, hmu, haw, hbw⟩ := hrel
   clear HA3 HB3 HR0 HM0
   have HRC := Lib.hid hrc
   have HMU := Lib.hid hmu
   have HBW := Lib.hid hbw
   have HGK := Lib.hid hgk
   generalize gk = gk_1 at *
   obtain ⟨QV, hA⟩ := haw
   obtain ⟨QA, qk, rfl⟩ := own_shape hA.hq
   have HA := Lib.hid hA
   have t0 := hA.hwt.cell 0
   simp only [List.getElem?_toArray, List.getElem?_cons_zero] at t0
   clear hrc hmu hbw hgk hA
   obtain ⟨b, qq⟩ := p
   dsimp only at t0 HA
   rcases List.eq_nil_or_concat qq with rfl | ⟨q1, kk, rfl⟩
   ·
    have HEND : Hid (RchEnd rs (bytes s) w (.returned (.int .i64 G)) wr) := ⟨G, rfl, HRC.out.top_of HG.out rfl hMp, below_next HBV.out HBW.out⟩
    clear HRC HA HBW HGK HMU
    go_wp2_with fail
    go_ret
    exact HEND.out
   ·
    rw [List.concat_eq_append] at HRC HMU HGK HA t0
    rw [List.length_append, List.length_singleton] at HA t0
    have hb0 : b[kk]? = some true := HRC.out.que kk (by simp)
    have hlen : b.length = KN := by have := HRC.out.len; rw [bytes_len, HKE.out] at this; exact this
    have hkk : kk < KN := by have := (List.getElem?_eq_some_iff.1 hb0).1; omega
    have hq1 : q1.length < 2 ^ 41 := by
     have := HMU.out
     unfold muP at this
     simp only [List.length_append, List.length_singleton] at this
     omega
    obtain ⟨HRP, _⟩ := HRC.out.pop
    have HMK := Lib.hid (HRC.out.met kk hb0)
    have HRP := Lib.hid HRP
    have HMP : Hid (muP (b, q1) < gk_1 ∧ muP (b, q1) ≤ 2 * KN) := by
     have h1 := HMU.out
     have h2 := HGK.out
     unfold Hid
     rw [h2]
     unfold muP at h1 ⊢
     simp only [List.length_append, List.length_singleton] at h1 ⊢
     omega
    have hqo := HA.out.hq
    dsimp only at hqo
    rw [List.length_append, List.length_singleton, List.map_append] at hqo
    obtain ⟨qb, rfl, hqb, hqc⟩ := own_cells hqo (j := q1.length) (x := .int .i64 kk) (by simp)
    have HPO := Lib.hid (own_pop hqo (by simp))
    have hqk : q1.length ≤ qk := by have := own_cap hqo; omega
    have f0 := HA.out.hwt.free 0
    have HAN : Hid (AWE V.heap.size (wr.setCell ⟨wt, 0, none⟩ (.slice (some ⟨qb, 0, none⟩) q1.length qk)) al ab wt KN (b, q1)) := by
     refine ⟨_, (Below.heap_setCell wr ⟨wt, 0, none⟩ _ al HA.out.nn).trans HA.out.hal, (Below.heap_setCell wr ⟨wt, 0, none⟩ _ ab (Blk.type_ne HA.out.hab HA.out.hwt (by decide))).trans HA.out.hab, hlen, HA.out.hwt.set 0 _, own_set HPO.out HA.out.hwt (by decide) _, HA.out.nal, HA.out.nab, HA.out.nwt, HA.out.nn⟩
    have HBN : Hid (Below V.heap.size V (wr.setCell ⟨wt, 0, none⟩ (.slice (some ⟨qb, 0, none⟩) q1.length qk))) := HBW.out.setCell HA.out.nwt _
    have hql0 : (0 : Int) ≤ (q1.length : Int) := by omega
    clear HRC HMU HA HPO hqo hb0 hlen HGK HBW
    go_upto_region 10 with fail
    clear t0 hqc f0 hqb hqk
    generalize wr.setCell ⟨wt, 0, none⟩ (.slice (some ⟨qb, 0, none⟩) q1.length qk) = W2 at *
    obtain ⟨ai, hai⟩ : ∃ ai, kk / M = ai := ⟨_, rfl⟩
    obtain ⟨mo, hmo⟩ : ∃ mo, kk % M = mo := ⟨_, rfl⟩
    have hdiv : (kk : Int) / (M : Int) = (ai : Int) := by rw [← hai]; exact (Int.natCast_ediv kk M).symm
    have hmod : (kk : Int) % (M : Int) = (mo : Int) := by rw [← hmo]; exact (Int.natCast_emod kk M).symm
    have hmoM : mo < M := by rw [← hmo]; exact Nat.mod_lt kk (by omega)
    have hais : ai ≤ s.size := by
     have h1 : kk < M * (s.size + 1) := by rw [Nat.mul_comm, HKE.out]; exact hkk
     have h2 := Nat.div_lt_of_lt_mul h1
     omega
    have HAI : Hid (kk / M = ai ∧ kk % M = mo) := ⟨hai, hmo⟩
    rw [hai] at HRP HMK
    rw [hmo] at HMK
    clear hai hmo
    have hMi : (0 : Int) < (M : Int) := by omega
    have hk0 : (0 : Int) ≤ (kk : Int) := by omega
    have m2 := (HBN.out.cell (p := ⟨cm, 0, none⟩) HCL.out).trans m0
    go_quiet (fail)
    rw [hmod]
    clear hdiv hmod
    have hBD : Below W2.heap.size W2 (W2.drewN nq) := below_dN (Below.refl _ _)
    have HA5 := Lib.hid (HAN.out.below hBD)
    have HB5 := Lib.hid (below_next HBN.out hBD)
    clear hBD HAN HBN m2
    generalize W2.drewN nq = W3 at *
    have w2 := (HV.out.next HB5.out).wk.cell 2
    simp only [List.getElem?_toArray, List.getElem?_cons_zero, List.getElem?_cons_succ] at w2
    have hmax : max (G : Int) (ai : Int) = ((max G ai : Nat) : Int) := by omega
    go_wp2_with fail
    clear hmax
    have HRS : Hid (RcI rs (bytes s) M (b, q1) (max G ai) (fun x => x = kk)) := HRP.out
    clear HRP
    have haG : ai ≤ max G ai := Nat.le_max_right _ _
    generalize max G ai = G2 at *
    go_loopg [63] rs.length (fun gi s63 wx => ∃ (c : Nat) (p' : Aw), c ≤ rs.length ∧ gi = rs.length - c ∧ s63 = .int .i64 c ∧ RcI rs (bytes s) M p' G2 (fun x => x = kk) ∧ muP p' ≤ muP (b, q1) ∧ (∀ j u, j < c → edgP rs (bytes s) (ai, (mo : Int)) (j : Int) = some u → p'.1[idxP M u]? = some true) ∧ AWE V.heap.size wx al ab wt KN p' ∧ Below V.heap.size V wx)
    case atStart => exact ⟨0, _, Nat.zero_le _, rfl, rfl, HRS.out, Nat.le_refl _, fun j u hj => absurd hj (Nat.not_lt_zero _), HA5.out, HB5.out⟩
    case round =>
     obtain ⟨c, p', hc, hgi, rfl, hrc, hmu, hdn, haw, hbw⟩ := hrel
     clear HA5 HB5 HRS w2
     have HRC := Lib.hid hrc
     have HMU := Lib.hid hmu
     have HDN := Lib.hid hdn
     have HA := Lib.hid haw
     have HB := Lib.hid hbw
     have HGI := Lib.hid hgi
     clear hrc hmu hdn haw hbw hgi
     have hc0 : (0 : Int) ≤ (c : Int) := by omega
     by_cases hlt : c < rs.length
     ·
      have hcn : (c : Int) < (rs.length : Int) := by omega
      have HW := Lib.hid (HV.out.next HB.out)
      obtain ⟨tb, o, rfl, CX, kx, hA2, d0, d1, d2, d3, d4, d5, _, _⟩ : ∃ tb o, A = some ⟨tb, o, none⟩ ∧ ∃ CX kx, tb < wr.heap.size ∧ wr.cell? ⟨tb, o + c * 6, none⟩ = some (.string rs[c].p) ∧ wr.cell? ⟨tb, o + c * 6 + 1, none⟩ = some (.slice CX rs[c].c.length kx) ∧ wr.cell? ⟨tb, o + c * 6 + 2, none⟩ = some (.int .u8 rs[c].l) ∧ wr.cell? ⟨tb, o + c * 6 + 3, none⟩ = some (.int .u8 rs[c].r) ∧ wr.cell? ⟨tb, o + c * 6 + 4, none⟩ = some (.int .i64 rs[c].f) ∧ wr.cell? ⟨tb, o + c * 6 + 5, none⟩ = some (.int .i64 rs[c].t) ∧ Seq wr wr.heap.size CX rs[c].c ∧ rs[c].fits := by
       obtain ⟨tb, o, CX, kx, e, h1, h2, h3, h4, h5, h6, h7, h8, h9⟩ := rules_row HW.out.rules hlt
       exact ⟨tb, o, e, CX, kx, h1, h2, h3, h4, h5, h6, h7, h8, h9⟩
      have hmt := (modes_ok HG.out (List.getElem_mem hlt)).2
      have HTO : Hid (folB (bytes s) rs[c] ai = true → ai + rs[c].p.size ≤ s.size) := fun h => by
       have := (pre_split (fol_pre h) (by rw [bytes_len]; exact hais)).2.2
       rw [bytes_len, bytes_len] at this
       exact this
      have HED : Hid (∀ u, edgP rs (bytes s) (ai, (mo : Int)) (c : Int) = some u → rs[c].f = (mo : Int) ∧ folB (bytes s) rs[c] ai = true ∧ u = (ai + rs[c].p.size, rs[c].t)) := fun u he => by
       obtain ⟨j', e, hj', h1, h2, h3⟩ := edgP_some he
       have : c = j' := by omega
       subst this
       exact ⟨h1, h2, h3⟩
      have HEM : Hid (rs[c].f = (mo : Int) → folB (bytes s) rs[c] ai = true → edgP rs (bytes s) (ai, (mo : Int)) (c : Int) = some (ai + rs[c].p.size, rs[c].t)) := fun h1 h2 => edgP_mk hlt h1 h2
      have hbx := below_box wr #[.string rs[c].p, .slice CX rs[c].c.length kx, .int .u8 rs[c].l, .int .u8 rs[c].r, .int .i64 rs[c].f, .int .i64 rs[c].t] 99
      have HX : Hid (Blk (wr.alloc (.cells #[.string rs[c].p, .slice CX rs[c].c.length kx, .int .u8 rs[c].l, .int .u8 rs[c].r, .int .i64 rs[c].f, .int .i64 rs[c].t] 99)) wr.heap.size 99 #[.string rs[c].p, .slice CX rs[c].c.length kx, .int .u8 rs[c].l, .int .u8 rs[c].r, .int .i64 rs[c].f, .int .i64 rs[c].t]) := Blk.new _ _ _
      have HAX := Lib.hid (HA.out.below hbx)
      have HBX := Lib.hid (below_next HB.out hbx)
      have HFW := Lib.hid (fun (W : World) (hb : Below V.heap.size V W) => follow_any q M a (some ⟨tb, o, none⟩) rs.length k rs s PV SV (.slice (some ⟨cg, 0, none⟩) (s.size + 1) (s.size + 1)) ai c W rfl (HV.out.next hb).rules HG.out hm hmax (by omega) hais hlt (HV.out.next hb).wk)
      have w2 := HW.out.wk.cell 2
      simp only [List.getElem?_toArray, List.getElem?_cons_zero, List.getElem?_cons_succ] at w2
      clear hbx HA HB HW
      generalize rs[c] = x at *
      go_upto_region 15 with fail
      generalize wr.alloc (.cells #[.string x.p, .slice CX x.c.length kx, .int .u8 x.l, .int .u8 x.r, .int .i64 x.f, .int .i64 x.t] 99) = W6 at *
      obtain ⟨cx, hcx⟩ : ∃ cx, wr.heap.size = cx := ⟨_, rfl⟩
      rw [hcx] at HX
      simp only [hcx]
      clear hcx d0 d1 d2 d3 d4 d5 hA2 w2
      obtain ⟨mt, hmtE⟩ : ∃ mt : Nat, x.t = (mt : Int) := ⟨x.t.toNat, by omega⟩
      rw [hmtE] at HX hmt HED HEM
      have hmtM : mt < M := by omega
      clear hmtE hmt
      have x4 := HX.out.cell 4
      simp only [List.getElem?_toArray, List.getElem?_cons_zero, List.getElem?_cons_succ] at x4
      have hfs : x.f = (mo : Int) ∨ x.f ≠ (mo : Int) := by omega
      rcases hfs with hfm | hfm
      ·
       have HEM2 : Hid (folB (bytes s) x ai = true → edgP rs (bytes s) (ai, (mo : Int)) (c : Int) = some (ai + x.p.size, (mt : Int))) := HEM.out hfm
       have hmm : (x.f != (mo : Int)) = false := by rw [hfm]; simp
       clear hfm HEM
       obtain ⟨fb, hfb⟩ : ∃ fb, folB (bytes s) x ai = fb := ⟨_, rfl⟩
       rw [hfb] at HFW HTO HEM2 HED
       clear hfb
       cases fb with
       | false =>
        have HDN2 : Hid (∀ j u, j < c + 1 → edgP rs (bytes s) (ai, (mo : Int)) (j : Int) = some u → p'.1[idxP M u]? = some true) := fun j u hj he => by
         by_cases e : j = c
         ·
          subst e; exact absurd (HED.out u he).2.1 Bool.false_ne_true
         ·
          exact HDN.out j u (by omega) he
        go_wp2_with fail
        refine (HFW.out _ HBX.out).mono ?_
        rintro e w7 ⟨rfl, hb7⟩
        have HA7 := Lib.hid (HAX.out.below hb7)
        have HB7 := Lib.hid (below_next HBX.out hb7)
        clear hb7 HAX HBX HX x4 HFW
        go_wp2_with fail
        go_roundg (rs.length - (c + 1))
        case measure => rw [HGI.out]; omega
        case rel => exact ⟨c + 1, p', hlt, rfl, by go_num, HRC.out, HMU.out, HDN2.out, HA7.out, HB7.out⟩
       | true =>
        have htp := HTO.out rfl
        have hed := HEM2.out rfl
        obtain ⟨HWK, hwkm⟩ := HRC.out.wake (met_step HMK.out hed) (by rw [bytes_len]; exact htp) (by show (0 : Int) ≤ (mt : Int); omega) (by show (mt : Int) < (M : Int); omega)
        have hid2 : idxP M (ai + x.p.size, (mt : Int)) = (ai + x.p.size) * M + mt := rfl
        have hidl : (ai + x.p.size) * M + mt < KN := by
         have h1 := idx_lt (M := M) (L := s.size) (u := (ai + x.p.size, (mt : Int))) htp (by show (0 : Int) ≤ (mt : Int); omega) (by show (mt : Int) < (M : Int); omega)
         rw [HKE.out, hid2] at h1
         exact h1
        have HDN2 : Hid (∀ j u, j < c + 1 → edgP rs (bytes s) (ai, (mo : Int)) (j : Int) = some u → (wakeL p' ((ai + x.p.size) * M + mt)).1[idxP M u]? = some true) := fun j u hj he => by
         by_cases e : j = c
         ·
          subst e
          rw [(HED.out u he).2.2]
          exact hwkm
         ·
          exact wk_mono (HDN.out j u (by omega) he)
        have HWK2 : Hid (RcI rs (bytes s) M (wakeL p' ((ai + x.p.size) * M + mt)) G2 (fun x => x = kk)) := HWK
        have HMU2 : Hid (muP (wakeL p' ((ai + x.p.size) * M + mt)) ≤ muP (b, q1)) := Nat.le_trans (mu_wake _ _) HMU.out
        have hql : p'.2.length < 2 ^ 41 := by
         have h1 := HMU.out
         have h2 := HMP.out.2
         have h3 : p'.2.length ≤ muP p' := by unfold muP; omega
         omega
        clear hed HWK hwkm hid2 HDN HRC HMU HED
        go_wp2_with fail
        refine (HFW.out _ HBX.out).mono ?_
        rintro e w7 ⟨rfl, hb7⟩
        rw [if_pos rfl]
        have HA7 := Lib.hid (HAX.out.below hb7)
        have HB7 := Lib.hid (below_next HBX.out hb7)
        have HX7 := Lib.hid (HX.out.keep hb7 HX.out.lt)
        clear hb7 HAX HBX HX x4 HFW
        generalize ai + x.p.size = tp at *
        have x5 := HX7.out.cell 5
        simp only [List.getElem?_toArray, List.getElem?_cons_zero, List.getElem?_cons_succ] at x5
        go_wp2_with fail
        refine (meet_any V.heap.size al ab wt KN cm M tp mt p' w7 HA7.out (HCM.out.keep HB7.out HCL.out) hidl HKL.out hql).mono ?_
        rintro e w8 ⟨rfl, ha8, hb8⟩
        have HA8 := Lib.hid ha8
        have HB8 : Hid (Below V.heap.size V w8) := HB7.out.trans hb8
        clear ha8 hb8 HA7 HB7 HX7 x5 hidl
        go_wp2_with fail
        go_roundg (rs.length - (c + 1))
        case measure => rw [HGI.out]; omega
        case rel => exact ⟨c + 1, _, hlt, rfl, by go_num, HWK2.out, HMU2.out, HDN2.out, HA8.out, HB8.out⟩
      ·
       have hmm : (x.f != (mo : Int)) = true := by rw [bne_iff_ne]; exact hfm
       have HDN2 : Hid (∀ j u, j < c + 1 → edgP rs (bytes s) (ai, (mo : Int)) (j : Int) = some u → p'.1[idxP M u]? = some true) := fun j u hj he => by
        by_cases e : j = c
        ·
         subst e; exact absurd (HED.out u he).1 hfm
        ·
         exact HDN.out j u (by omega) he
       clear hfm
       go_wp2_with fail
       go_roundg (rs.length - (c + 1))
       case measure => rw [HGI.out]; omega
       case rel => exact ⟨c + 1, p', hlt, rfl, by go_num, HRC.out, HMU.out, HDN2.out, HAX.out, HBX.out⟩
     ·
      have HFIN : Hid (RcI rs (bytes s) M p' G2 (fun _ => False)) := by
       refine HRC.out.done (k := kk) (by rw [HAI.out.1]; exact haG) (fun j u he => ?_)
       rw [HAI.out.1, HAI.out.2] at he
       obtain ⟨j', e, hj', _⟩ := edgP_some he
       subst e
       exact HDN.out j' u (by omega) he
      have HML : Hid (muP p' < gk_1) := Nat.lt_of_le_of_lt HMU.out HMP.out.1
      go_wp2_with fail
      go_roundg (muP p')
      case measure => exact HML.out
      case rel => exact ⟨p', G2, rfl, rfl, HFIN.out, Nat.le_trans HMU.out HMP.out.2, HA.out, HB.out⟩
end Go.Proofs.Ytpkdlljefkbmpaa
