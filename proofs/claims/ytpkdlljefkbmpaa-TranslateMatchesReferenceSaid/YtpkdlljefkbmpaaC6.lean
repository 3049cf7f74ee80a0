/- Merged by program: Lf1a Lr1a Lq1a Lq1 -/
import Derived.Test.YtpkdlljefkbmpaaT7
import Derived.Test.YtpkdlljefkbmpaaQ20
import Derived.Test.YtpkdlljefkbmpaaQ15
import Derived.Test.YtpkdlljefkbmpaaT12
import Derived.Test.YtpkdlljefkbmpaaT9
import Derived.Test.YtpkdlljefkbmpaaQ22
import Derived.Test.YtpkdlljefkbmpaaT14
import Derived.Test.YtpkdlljefkbmpaaT15
import Derived.ProofKit
import Derived.OpenShut

/-! law06.TranslateFewest. -/
namespace Go.Proofs.Ytpkdlljefkbmpaa
open Go.RowKit Go.Maps
end Go.Proofs.Ytpkdlljefkbmpaa

/-! law06.TranslateRefuses. -/
namespace Go.Proofs.Ytpkdlljefkbmpaa
open Go.RowKit Go.Maps
theorem conv_seq {W : World} {B n cap : Nat} {A : Option Addr} {l : List Int} (hl : l.length = n) (h : Seq W B A l) : (convert 25 9 (.slice A n cap)).run Try.prog W = .ok (.string (strOf l)) W := by
 cases A with
 | none =>
  have h0 : l.length = 0 := by
   rcases Nat.eq_zero_or_pos l.length with e | e
   ·
    exact e
   ·
    obtain ⟨b, o, e2, _⟩ := h e; cases e2
  obtain rfl : l = [] := List.eq_nil_of_length_eq_zero h0
  obtain rfl : n = 0 := by rw [← hl]; rfl
  rw [run_convert_bytes_string W _ _ _ _ _ _ Try.underlying25 Try.underlying5 Try.underlying9]
  rfl
 | some ad =>
  rw [run_convert_bytes_string W _ _ _ _ _ _ Try.underlying25 Try.underlying5 Try.underlying9, run_bytesToString W _ n cap l, strOf_eq]
  have hl2 := run_loadCells_list (P := Try.prog) W ad (l.map (Value.int .u8)) (fun j v hv => by
   rw [List.getElem?_map] at hv
   cases hi : l[j]? with
   | none => rw [hi] at hv; cases hv
   | some z =>
    rw [hi] at hv
    injection hv with hv
    have hil := List.getElem?_eq_some_iff.1 hi
    obtain ⟨b, o, e, hb, hc⟩ := h (Nat.lt_of_le_of_lt (Nat.zero_le _) hil.1)
    injection e with e
    subst e
    rw [plain_add, ← hv, ← hil.2]
    exact hc j hil.1)
  rw [List.length_map, hl] at hl2
  exact hl2
theorem best_len {m a : Int} {rs : List Rule} (hG : GoodL m a rs) (hm : 1 ≤ m ∧ m ≤ 8) {s : List Nat} {ks : List Int} (h : BestE (edgP rs s) (cstR rs) (finP a s) (0, 0) ks) : ks.length ≤ 4 * ((s.length + 1) * 8) := by
 obtain ⟨M, hM⟩ : ∃ M : Nat, m = (M : Int) := ⟨m.toNat, by omega⟩
 obtain ⟨u, h1, _⟩ := h.1
 have h2 := len_le_cst hG ks _ _ h1
 have h4 := minE_bound (L := nodesP s.length M) (C := 4) (edgP_cst hG)
  (fun v k u hv he => by
   obtain ⟨g1, g2, g3, _⟩ := edgP_ok hG (nodesP_mem.1 hv).1 he
   exact nodesP_mem.2 ⟨g1, g2, by omega⟩)
  (v := (0, 0)) (nodesP_mem.2 ⟨Nat.zero_le _, Int.le_refl _, by show (0 : Int) < (M : Int); omega⟩) h.min
 rw [nodesP_len] at h4
 have h5 : (s.length + 1) * M ≤ (s.length + 1) * 8 := Nat.mul_le_mul_left _ (by omega)
 omega
end Go.Proofs.Ytpkdlljefkbmpaa

/-! law06.TranslateMatchesReference. -/
namespace Go.Proofs.Ytpkdlljefkbmpaa
open Go.RowKit Go.Maps
set_option maxRecDepth 10000 in
set_option maxHeartbeats 8000000 in
theorem walk_match (bs dr : Int) (A : Option Addr) (n k : Nat) (XA : Option Addr) (xk : Nat) (xs : List Int) (YA : Option Addr) (yk : Nat) (ys : List Int) (w : World) (hW : RawMs w w.heap.size A n) (hbs : 0 ≤ bs ∧ bs < 256) (hdr : 0 ≤ dr ∧ dr < 256) (hX : Seq w w.heap.size XA xs) (hxs : ∀ z ∈ xs, 0 ≤ z ∧ z < 256) (hY : Seq w w.heap.size YA ys) (_hys : ∀ z ∈ ys, 0 ≤ z ∧ z < 256) (hyk : ys.length ≤ yk) :
  Calls Try.prog 8 #[.agg #[.int .u8 bs, .int .u8 dr, .slice A n k], .slice XA xs.length xk, .slice YA ys.length yk] w fun e w' => e = .returned (.bool true) ∧ Below w.heap.size w w' := by
 obtain ⟨g, hg⟩ : ∃ g, w.heap.size = g := ⟨_, rfl⟩
 have V0A : Hid (Blk (w.alloc (.cells #[.int .u8 bs, .int .u8 dr, .slice A n k] 24)) g 24 #[.int .u8 bs, .int .u8 dr, .slice A n k]) := by
  unfold Hid; rw [← hg]; exact Blk.new w _ _
 have V0B : Hid (Below w.heap.size w (w.alloc (.cells #[.int .u8 bs, .int .u8 dr, .slice A n k] 24))) := (Below.refl _ _).alloc (Nat.le_refl _) _
 have HW := Lib.hid hW
 have HX := Lib.hid hX
 have HXS := Lib.hid hxs
 have HY := Lib.hid hY
 clear hW hX hxs hY
 go_enter Try.func8, Try.ntmps8
 go_wp2_with fail
 generalize w.alloc (.cells #[.int .u8 bs, .int .u8 dr, .slice A n k] 24) = V0 at *
 refine (sanity6_any _).mono ?_
 rintro e w1 ⟨rfl, hb1⟩
 have A1 := Lib.hid (V0A.out.keep hb1 (Blk.lt V0A.out))
 have B1 : Hid (Below w.heap.size w w1) := below_next V0B.out hb1
 clear hb1 V0A V0B
 have a0 := A1.out.cell 0
 have a1 := A1.out.cell 1
 have a2 := A1.out.cell 2
 simp only [List.getElem?_toArray, List.getElem?_cons_zero, List.getElem?_cons_succ] at a0 a1 a2
 go_wp2_with fail
 have HW1 : RawMs w1 w1.heap.size A n := HW.out.up B1.out
 refine (made_any w1 A n k bs dr HW1 hbs hdr).mono ?_
 rintro e w2 ⟨m, a, rs, v, rfl, hM, hG, hl10, hm12, ha, hb2⟩
 obtain ⟨A2, k2, rfl, hR2, hk2⟩ := (Made.b hM).rules
 have HG := Lib.hid hG
 have R2 := Lib.hid hR2
 have B2 : Hid (Below w.heap.size w w2) := below_next B1.out hb2
 clear hb2 hM hG hR2 a0 a1 a2 HW1 B1 A1 HW
 obtain ⟨q, hq⟩ : ∃ q, w2.heap.size = q := ⟨_, rfl⟩
 go_upto_region 3 with fail
 have BA : Hid (Below w2.heap.size w2 (w2.alloc (.cells #[.int .i64 m, .int .u8 a, .slice A2 rs.length k2] 30))) := below_box _ _ _
 have T3 : Hid (Blk (w2.alloc (.cells #[.int .i64 m, .int .u8 a, .slice A2 rs.length k2] 30)) q 30 #[.int .i64 m, .int .u8 a, .slice A2 rs.length k2]) := by
  unfold Hid; rw [← hq]; exact Blk.new w2 _ _
 have R3 := Lib.hid (R2.out.up BA.out)
 have B3 : Hid (Below w.heap.size w (w2.alloc (.cells #[.int .i64 m, .int .u8 a, .slice A2 rs.length k2] 30))) := below_next B2.out BA.out
 generalize w2.alloc (.cells #[.int .i64 m, .int .u8 a, .slice A2 rs.length k2] 30) = w3 at *
 clear hq BA R2 B2
 have t0 := T3.out.cell 0
 have t1 := T3.out.cell 1
 have t2 := T3.out.cell 2
 simp only [List.getElem?_toArray, List.getElem?_cons_zero, List.getElem?_cons_succ] at t0 t1 t2
 have hn0 : 0 < rs.length := by
  have h := HG.out.1
  unfold numsB at h
  simp only [Bool.and_eq_true, decide_eq_true_eq] at h
  omega
 go_wp2_with fail
 refine (text3_any m a A2 rs.length k2 rs w3 rfl R3.out HG.out (by omega) (by omega) ha XA xs.length xk xs rfl (HX.out.up B3.out) HXS.out).mono ?_
 rintro e w4 ⟨S0, sb0, rfl, hS0, hb4⟩
 have T4 := Lib.hid (T3.out.keep hb4 T3.out.lt)
 have R4 := Lib.hid (R3.out.up hb4)
 have B4 : Hid (Below w.heap.size w w4) := below_next B3.out hb4
 clear hb4 t0 t1 t2 T3 R3 B3
 have t0 := T4.out.cell 0
 have t1 := T4.out.cell 1
 have t2 := T4.out.cell 2
 simp only [List.getElem?_toArray, List.getElem?_cons_zero, List.getElem?_cons_succ] at t0 t1 t2
 have hql := T4.out.lt
 have HSP : Hid (∀ W, Below w4.heap.size w4 W → Calls Try.prog 31 #[.agg #[.int .i64 m, .int .u8 a, .slice A2 rs.length k2], .slice XA xs.length xk] W (SpelEnd rs W)) := fun W hb =>
  spelled_any m a A2 rs.length k2 rs W rfl (R4.out.up hb) (by omega) hn0 XA xs.length xk xs rfl (HX.out.up (below_next B4.out hb)) HXS.out
 obtain ⟨mn, hmn⟩ : ∃ mn, min ys.length 12 = mn := ⟨_, rfl⟩
 have hmn1 : mn ≤ 12 := by omega
 have hmn2 : mn ≤ ys.length := by omega
 have hmni : min (ys.length : Int) 12 = (mn : Int) := by omega
 have hmn0 : (0 : Int) ≤ (mn : Int) := by omega
 have hmnk : (mn : Int) ≤ (yk : Int) := by omega
 have hcv : Hid (∀ W, Below w4.heap.size w4 W → (convert 25 9 (.slice YA mn yk)).run Try.prog W = .ok (.string (strOf (ys.take mn))) W) := fun W hb => by
  refine conv_seq (B := W.heap.size) (by rw [List.length_take]; omega) ?_
  have h := HY.out.up (below_next B4.out hb)
  intro h0
  obtain ⟨b, o, e, hB, hc⟩ := h (by rw [List.length_take] at h0; omega)
  refine ⟨b, o, e, hB, fun j hj => ?_⟩
  rw [List.getElem_take]
  exact hc j (by rw [List.length_take] at hj; omega)
 have hS2 : (strOf (ys.take mn)).size ≤ 12 := by rw [strOf_size, List.length_take]; omega
 obtain ⟨S2, hS2e⟩ : ∃ S2, strOf (ys.take mn) = S2 := ⟨_, rfl⟩
 rw [hS2e] at hcv hS2
 clear hS2e hmn
 go_upto_region 4 with fail
 refine wp_region_head 12 0 (by kernel_rfl) (fun y => (.agg #[.int .u8 bs, .int .u8 dr, .slice A n k]) :: (.slice XA xs.length xk) :: (.slice YA ys.length yk) :: (.pointer (some ⟨g, 0, none⟩)) :: undef :: undef :: (.bool false) :: (.bool true) :: (.pointer (some ⟨q, 0, none⟩)) :: (.string S0) :: (.bool sb0) :: y 11 :: undef :: undef :: undef :: undef :: undef :: (.bool true) :: (.agg #[.int .u8 bs, .int .u8 dr, .slice A n k]) :: (.agg #[.int .i64 m, .int .u8 a, .slice A2 rs.length k2]) :: (.tuple #[Value.string S0, .bool sb0]) :: (.agg #[.int .i64 m, .int .u8 a, .slice A2 rs.length k2]) :: (.slice XA xs.length xk) :: (.tuple #[Value.string S0, .bool sb0]) :: (.string S0) :: (.bool sb0) :: y 0 :: y 1 :: y 2 :: y 3 :: y 4 :: y 5 :: y 6 :: y 7 :: y 8 :: y 9 :: y 10 :: undef :: undef :: undef :: undef :: undef :: undef :: undef :: undef :: undef :: undef :: undef :: undef :: undef :: undef :: undef :: undef :: undef :: undef :: undef :: undef :: undef :: undef :: undef :: undef :: undef :: undef :: undef :: undef :: undef :: undef :: undef :: undef :: undef :: undef :: undef :: undef :: undef :: undef :: undef :: undef :: undef :: undef :: undef :: undef :: undef :: undef :: undef :: undef :: undef :: [])
  (fun _ w' => Below w4.heap.size w4 w') (phiP [pv (.string S0), pv (.agg #[.int .i64 m, .int .u8 a, .slice A2 rs.length k2]), pv (.slice XA xs.length xk), pq (fun (z : ByteArray) => .string z) (fun (z : ByteArray) w => z.size ≤ 12 ∧ 0 ≤ w.heap.size), pv (.slice YA ys.length yk), pv (.slice YA ys.length yk), pv (.int .i64 (ys.length : Nat)), pv (.int .i64 mn), pv (.slice YA mn yk), pv (.string S2), pq (fun (z : ByteArray) => .agg #[.string S0, .string z, .string S2]) (fun (z : ByteArray) w => z.size ≤ 12 ∧ 0 ≤ w.heap.size), pq (fun (g : Nat) => .pointer (some ⟨g, 0, none⟩)) (fun (g : Nat) w => w4.heap.size ≤ g ∧ Blk w g 58 #[.string ⟨#[]⟩, .string ⟨#[]⟩, .string ⟨#[]⟩])]) (fun i => match i with | 0 => undef | 1 => undef | 2 => undef | 3 => undef | 4 => undef | 5 => undef | 6 => undef | 7 => undef | 8 => undef | 9 => undef | 10 => undef | 11 => undef | _ => undef)
  (by kernel_rfl) (by kernel_rfl) (by kernel_rfl) (by kernel_rfl) (fun i v wa wb h hb => phiP_keep (stay_cons (pv_st) (stay_cons (pv_st) (stay_cons (pv_st) (stay_cons (pq_st (fun _ _ _ h _ => ⟨h.1, Nat.zero_le _⟩)) (stay_cons (pv_st) (stay_cons (pv_st) (stay_cons (pv_st) (stay_cons (pv_st) (stay_cons (pv_st) (stay_cons (pv_st) (stay_cons (pq_st (fun _ _ _ h _ => ⟨h.1, Nat.zero_le _⟩)) (stay_cons (pq_st (fun _ _ _ h hb => ⟨h.1, h.2.keep hb h.2.lt⟩)) stay_nil)))))))))))) h hb) (Below.refl _ _).drew [0, 1, 2, 3, 4, 5, 6, 7, 8, 9, 10, 11] (by kernel_rfl) ?_ ?_
 ·
  refine allCons ?_ (allCons ?_ (allCons ?_ (allCons ?_ (allCons ?_ (allCons ?_ (allCons ?_ (allCons ?_ (allCons ?_ (allCons ?_ (allCons ?_ (allCons ?_ (allNil))))))))))))
  all_goals intro y w10 K hS hd hK
  ·
   refine wpOp_step rfl (fun K2 hK2 => ?_)
   go_simp
   exact hK2 _ _ (hK _ _ hS rfl (Below.refl _ _))
  ·
   have qq0 := (hS.cell (p := ⟨q, 0, none⟩) hql).trans t0
   have qq1 := (hS.cell (p := ⟨q, 1, none⟩) hql).trans t1
   have qq2 := (hS.cell (p := ⟨q, 2, none⟩) hql).trans t2
   refine wpOp_step rfl (fun K2 hK2 => ?_)
   go_simp
   exact hK2 _ _ (hK _ _ hS rfl (Below.refl _ _))
  ·
   refine wpOp_step rfl (fun K2 hK2 => ?_)
   go_simp
   exact hK2 _ _ (hK _ _ hS rfl (Below.refl _ _))
  ·
   have e1 : y 1 = _ := hd 1 rfl
   have e2 : y 2 = _ := hd 2 rfl
   obtain ⟨y, rfl⟩ := upd_at (y := y) (i := 1) e1
   obtain ⟨y, rfl⟩ := upd_at (y := y) (i := 2) e2
   dsimp [upd]
   refine wpOp_step rfl (fun K2 hK2 => ?_)
   go_simp
   refine (HSP.out w10 hS).mono ?_
   rintro e' w2 ⟨z, rfl, hz, _, hb⟩
   exact hK2 _ _ (hK _ _ (below_next hS hb) ⟨z, rfl, hz, Nat.zero_le _⟩ hb)
  ·
   refine wpOp_step rfl (fun K2 hK2 => ?_)
   go_simp
   exact hK2 _ _ (hK _ _ hS rfl (Below.refl _ _))
  ·
   refine wpOp_step rfl (fun K2 hK2 => ?_)
   go_simp
   exact hK2 _ _ (hK _ _ hS rfl (Below.refl _ _))
  ·
   have e5 : y 5 = _ := hd 5 rfl
   obtain ⟨y, rfl⟩ := upd_at (y := y) (i := 5) e5
   dsimp [upd]
   refine wpOp_step rfl (fun K2 hK2 => ?_)
   go_simp
   exact hK2 _ _ (hK _ _ hS rfl (Below.refl _ _))
  ·
   have e6 : y 6 = _ := hd 6 rfl
   obtain ⟨y, rfl⟩ := upd_at (y := y) (i := 6) e6
   dsimp [upd]
   refine wpOp_step rfl (fun K2 hK2 => ?_)
   go_simp
   exact hK2 _ _ (hK _ _ hS rfl (Below.refl _ _))
  ·
   have e4 : y 4 = _ := hd 4 rfl
   have e7 : y 7 = _ := hd 7 rfl
   obtain ⟨y, rfl⟩ := upd_at (y := y) (i := 4) e4
   obtain ⟨y, rfl⟩ := upd_at (y := y) (i := 7) e7
   dsimp [upd]
   refine wpOp_step rfl (fun K2 hK2 => ?_)
   go_simp
   exact hK2 _ _ (hK _ _ hS rfl (Below.refl _ _))
  ·
   have e8 : y 8 = _ := hd 8 rfl
   obtain ⟨y, rfl⟩ := upd_at (y := y) (i := 8) e8
   dsimp [upd]
   have hcw := hcv.out w10 hS
   refine wpOp_step rfl (fun K2 hK2 => ?_)
   go_simp
   exact hK2 _ _ (hK _ _ hS rfl (Below.refl _ _))
  ·
   have e0 : y 0 = _ := hd 0 rfl
   obtain ⟨z, e3, hz, hz0⟩ := hd 3 rfl
   have e9 : y 9 = _ := hd 9 rfl
   obtain ⟨y, rfl⟩ := upd_at (y := y) (i := 0) e0
   obtain ⟨y, rfl⟩ := upd_at (y := y) (i := 3) e3
   obtain ⟨y, rfl⟩ := upd_at (y := y) (i := 9) e9
   dsimp [upd]
   refine wpOp_step rfl (fun K2 hK2 => ?_)
   go_simp
   exact hK2 _ _ (hK _ _ hS ⟨z, rfl, hz, Nat.zero_le _⟩ (Below.refl _ _))
  ·
   refine wpOp_step rfl (fun K2 hK2 => ?_)
   go_simp
   exact hK2 _ _ (hK _ _ (below_next hS (below_box _ _ _)) ⟨_, rfl, hS.size, Blk.new _ _ _⟩ (below_box _ _ _))
 ·
  intro y w10 f hS hd
  obtain ⟨S1, e10, hS1, _⟩ := hd 10 (by decide)
  obtain ⟨ca, e11, hca, hB⟩ := hd 11 (by decide)
  clear hd
  obtain ⟨y, rfl⟩ := upd_at (y := y) (i := 10) e10
  obtain ⟨y, rfl⟩ := upd_at (y := y) (i := 11) e11
  dsimp [upd]
  have d0 := hB.cell 0
  have d1 := hB.cell 1
  have d2 := hB.cell 2
  have f0 := hB.free 0
  have f1 := hB.free 1
  have f2 := hB.free 2
  simp only [List.getElem?_toArray, List.getElem?_cons_zero, List.getElem?_cons_succ] at d0 d1 d2
  refine wpAny_one (i := 12) (by kernel_rfl) ?_
  refine wpOp_step rfl (fun K2 hK2 => ?_)
  go_simp
  refine hK2 _ _ ?_
  clear hK2 K2
  refine wpAny_done (by kernel_rfl) ?_ _
  have HAB : Hid (Blk (((w10.setCell ⟨ca, 0, none⟩ (.string S0)).setCell ⟨ca, 1, none⟩ (.string S1)).setCell ⟨ca, 2, none⟩ (.string S2)) ca 58 #[.string S0, .string S1, .string S2]) := ((hB.set 0 _).set 1 _).set 2 _
  have HBA : Hid (Below w4.heap.size w4 (((w10.setCell ⟨ca, 0, none⟩ (.string S0)).setCell ⟨ca, 1, none⟩ (.string S1)).setCell ⟨ca, 2, none⟩ (.string S2))) := ((hS.setCell hca _).setCell hca _).setCell hca _
  clear hS hB hca d0 d1 d2 f0 f1 f2 t0 t1 t2 HSP hcv hql hmni hmn0 hmnk hmn1 hmn2
  generalize ((w10.setCell ⟨ca, 0, none⟩ (.string S0)).setCell ⟨ca, 1, none⟩ (.string S1)).setCell ⟨ca, 2, none⟩ (.string S2) = V at *
  have HBV : Hid (Below w.heap.size w V) := below_next B4.out HBA.out
  have HTV := Lib.hid (T4.out.keep HBA.out T4.out.lt)
  have HRV := Lib.hid (R4.out.up HBA.out)
  obtain ⟨yo, rfl⟩ : ∃ yo : Nat → Value, yo = y := ⟨_, rfl⟩
  clear HBA T4 R4 B4 HX HXS HY
  go_wp2_with fail
  go_loopg [12] 3 (fun gk s12 wx => ∃ i : Nat, i ≤ 3 ∧ gk = 3 - i ∧ s12 = .int .i64 i ∧ Below V.heap.size V wx)
  case atStart => exact ⟨0, by omega, rfl, rfl, Below.refl _ _⟩
  case round =>
   obtain ⟨i, hi3, hgk, rfl, hbx⟩ := hrel
   have HGK := Lib.hid hgk
   have HBX := Lib.hid hbx
   clear hgk hbx
   have hi0 : (0 : Int) ≤ (i : Int) := by omega
   by_cases hlt : i < 3
   ·
    have hi3i : (i : Int) < 3 := by omega
    obtain ⟨S, hci, hSS⟩ : ∃ S : ByteArray, V.cell? ⟨ca, i, none⟩ = some (.string S) ∧ S.size ≤ 16000 := by
     have h := HAB.out.cell i
     match i, hlt with
     | 0, _ => exact ⟨S0, h, by omega⟩
     | 1, _ => exact ⟨S1, h, by omega⟩
     | 2, _ => exact ⟨S2, h, by omega⟩
    obtain ⟨cs, ks, pl, er, hwr⟩ := wr_ex HG.out (bytes S)
    obtain ⟨v, hv⟩ := cost_ex HG.out (bytes S)
    have HWR := Lib.hid hwr
    have HV := Lib.hid hv
    have hlens : cs.length < 2 ^ 40 ∧ ks.length < 2 ^ 40 := by
     rcases hwr with ⟨_, h1, h2, _⟩ | ⟨_, ⟨h1, h2, _⟩ | ⟨_, h1, h2, _⟩⟩
     ·
      subst h1 h2; exact ⟨by decide, by decide⟩
     ·
      have h3 := best_len HG.out (by omega) h1
      have h4 : (cellsK rs ks).length ≤ 4 * ks.length := by
       have h5 := cstE_len (E := edgP rs (bytes S)) (c := cstR rs) (C := 4) (fun v k u he => (edgP_cst HG.out v k u he).2) ks
       obtain ⟨u, h6, _⟩ := h1.1
       rw [cellsK_len]
       exact h5 _ _ h6
      rw [bytes_len] at h3
      rw [h2]
      omega
     ·
      subst h1 h2; exact ⟨by decide, by decide⟩
    obtain ⟨hcl, hkl⟩ := hlens
    clear hwr hv
    have HW1 : Hid (∀ W, Below wr.heap.size wr W → Calls Try.prog 32 #[.agg #[.int .i64 m, .int .u8 a, .slice A2 rs.length k2], .string S] W fun e w' => ∃ z : (Option Addr × Nat) × (Option Addr × Nat), e = .returned (.tuple #[.agg #[.slice z.1.1 cs.length z.1.2, .slice z.2.1 ks.length z.2.2], .int .i64 (pl : Nat), .int .i64 er]) ∧ WrZ cs ks z w' ∧ Below W.heap.size W w') := fun W hb =>
     (write_any m a A2 rs.length k2 rs S W rfl (HRV.out.up (below_next HBX.out hb)) HG.out (by omega) (by omega) ha hk2 (by omega)).mono fun e w' h => by
      obtain ⟨CA, ck, PA, pk, cs', ks', pl', er', rfl, h1, h2, h3, h4⟩ := h
      obtain ⟨rfl, rfl, rfl, rfl⟩ := wrR_one h3 HWR.out
      exact ⟨((CA, ck), (PA, pk)), rfl, ⟨h1, h2⟩, h4⟩
    have HW2 : Hid (∀ W, Below V.heap.size V W → Calls Try.prog 33 #[.agg #[.int .i64 m, .int .u8 a, .slice A2 rs.length k2], .string S] W fun e w' => ∃ z : (Option Addr × Nat) × (Option Addr × Nat), e = .returned (.agg #[.slice z.1.1 cs.length z.1.2, .slice z.2.1 ks.length z.2.2, .int .i64 (pl : Nat), .int .i64 er]) ∧ (WrZ cs ks z w' ∧ IntB ks z w') ∧ Below W.heap.size W w') := fun W hb =>
     (write6_any m a A2 rs.length k2 rs S W rfl (HRV.out.up hb) HG.out (by omega) (by omega) ha (by omega)).mono fun e w' h => by
      obtain ⟨CA, ck, PA, pk, cs', ks', pl', er', rfl, h1, h2, h3, h5, h4⟩ := h
      obtain ⟨rfl, rfl, rfl, rfl⟩ := wrR_one h3 HWR.out
      exact ⟨((CA, ck), (PA, pk)), rfl, ⟨⟨h1, h2⟩, h5⟩, h4⟩
    have HC1 : Hid (∀ W, Below V.heap.size V W → Calls Try.prog 35 #[.agg #[.int .i64 m, .int .u8 a, .slice A2 rs.length k2], .string S] W fun e w' => e = .returned (.int .i64 v) ∧ Below W.heap.size W w') := fun W hb =>
     cost6_any m a A2 rs.length k2 rs S v W ⟨HRV.out.up hb, HG.out, rfl, by omega, by omega, ha, hk2⟩ (by omega) HV.out
    have HC2 : Hid (∀ W, Below V.heap.size V W → Calls Try.prog 36 #[.agg #[.int .i64 m, .int .u8 a, .slice A2 rs.length k2], .string S] W fun e w' => e = .returned (.int .i64 v) ∧ Below W.heap.size W w') := fun W hb =>
     rCost_any m a A2 rs.length k2 rs S v W rfl (HRV.out.up hb) HG.out (by omega) (by omega) ha (by omega) HV.out
    have HTW := Lib.hid (HTV.out.keep HBX.out HTV.out.lt)
    have HAW := Lib.hid (HAB.out.keep HBX.out HAB.out.lt)
    have t0 := HTW.out.cell 0
    have t1 := HTW.out.cell 1
    have t2 := HTW.out.cell 2
    have ci := (HBX.out.cell (p := ⟨ca, i, none⟩) HAB.out.lt).trans hci
    simp only [List.getElem?_toArray, List.getElem?_cons_zero, List.getElem?_cons_succ] at t0 t1 t2
    have hql8 := HTW.out.lt
    have hcl8 := HAW.out.lt
    go_upto_region 8 with fail
    refine wp_region_mid2 12 0 (by kernel_rfl) (fun y => (.agg #[.int .u8 bs, .int .u8 dr, .slice A n k]) :: (.slice XA xs.length xk) :: (.slice YA ys.length yk) :: (.pointer (some ⟨g, 0, none⟩)) :: undef :: undef :: u6 :: (.bool true) :: (.pointer (some ⟨q, 0, none⟩)) :: (.string S0) :: (.bool sb0) :: (.pointer (some ⟨ca, 0, none⟩)) :: (.int .i64 ↑i) :: y 9 :: y 11 :: u15 :: u16 :: (.bool true) :: (.agg #[.int .u8 bs, .int .u8 dr, .slice A n k]) :: (.agg #[.int .i64 m, .int .u8 a, .slice A2 rs.length k2]) :: (.tuple #[Value.string S0, .bool sb0]) :: (.agg #[.int .i64 m, .int .u8 a, .slice A2 rs.length k2]) :: (.slice XA xs.length xk) :: (.tuple #[Value.string S0, .bool sb0]) :: (.string S0) :: (.bool sb0) :: (yo 0) :: (yo 1) :: (yo 2) :: (yo 3) :: (yo 4) :: (yo 5) :: (yo 6) :: (yo 7) :: (yo 8) :: (yo 9) :: (.agg #[Value.string S0, Value.string S1, Value.string S2]) :: (.int .i64 ↑i) :: (.bool true) :: u39 :: u40 :: y 5 :: y 0 :: y 1 :: y 2 :: y 3 :: y 4 :: y 6 :: y 7 :: y 8 :: u50 :: u51 :: u52 :: u53 :: u54 :: u55 :: u56 :: u57 :: u58 :: u59 :: u60 :: u61 :: u62 :: u63 :: u64 :: u65 :: u66 :: u67 :: u68 :: u69 :: u70 :: u71 :: u72 :: u73 :: u74 :: u75 :: u76 :: u77 :: u78 :: u79 :: u80 :: u81 :: u82 :: u83 :: u84 :: undef :: []) (stW wr cs ks 9 10) (phiW wr cs ks [.val (.agg #[.int .i64 m, .int .u8 a, .slice A2 rs.length k2]), .val (.int .i64 i), .val (.pointer (some ⟨ca, i, none⟩)), .val (.string S), .wr (fun z => .tuple #[.agg #[.slice z.1.1 cs.length z.1.2, .slice z.2.1 ks.length z.2.2], .int .i64 (pl : Nat), .int .i64 er]), .wr (fun z => .tuple #[.agg #[.slice z.1.1 cs.length z.1.2, .slice z.2.1 ks.length z.2.2], .int .i64 (pl : Nat), .int .i64 er]), .wr (fun z => .agg #[.slice z.1.1 cs.length z.1.2, .slice z.2.1 ks.length z.2.2]), .val (.int .i64 (pl : Nat)), .val (.int .i64 er), .blk, .any, .val (.int .i64 (pl : Nat))]) (fun i => match i with | 0 => u42 | 1 => u43 | 2 => u44 | 3 => u45 | 4 => u46 | 5 => u41 | 6 => u47 | 7 => u48 | 8 => u49 | 9 => u13 | 11 => u14 | _ => undef)
     (by kernel_rfl) (by kernel_rfl) (by kernel_rfl) (by kernel_rfl) ?_ [0, 1, 2, 3, 4, 5, 6, 7, 8, 9, 10, 11] (by kernel_rfl) ?_ ?_
    ·
     exact ⟨(Below.refl _ _).drew, fun h => by cases h⟩
    ·
     refine allCons ?_ (allCons ?_ (allCons ?_ (allCons ?_ (allCons ?_ (allCons ?_ (allCons ?_ (allCons ?_ (allCons ?_ (allCons ?_ (allCons ?_ (allCons ?_ (allNil))))))))))))
     all_goals intro bl y w10 K3 hbi hS hd hK3
     ·
      have qq0 := (hS.1.cell (p := ⟨q, 0, none⟩) hql8).trans t0
      have qq1 := (hS.1.cell (p := ⟨q, 1, none⟩) hql8).trans t1
      have qq2 := (hS.1.cell (p := ⟨q, 2, none⟩) hql8).trans t2
      refine wpOp_step rfl (fun K2 hK2 => ?_)
      go_simp
      exact hK2 _ _ (hK3 _ _ (stW_same hS (by decide) (Below.refl _ _)) rfl (fun _ _ h => h))
     ·
      refine wpOp_step rfl (fun K2 hK2 => ?_)
      go_simp
      exact hK2 _ _ (hK3 _ _ (stW_same hS (by decide) (Below.refl _ _)) rfl (fun _ _ h => h))
     ·
      have e1 : y 1 = _ := (hd 1 rfl).2
      obtain ⟨y, rfl⟩ := upd_at (y := y) (i := 1) e1
      dsimp [upd]
      refine wpOp_step rfl (fun K2 hK2 => ?_)
      go_simp
      exact hK2 _ _ (hK3 _ _ (stW_same hS (by decide) (Below.refl _ _)) rfl (fun _ _ h => h))
     ·
      have e2 : y 2 = _ := (hd 2 rfl).2
      obtain ⟨y, rfl⟩ := upd_at (y := y) (i := 2) e2
      dsimp [upd]
      have qc := (hS.1.cell (p := ⟨ca, i, none⟩) hcl8).trans ci
      refine wpOp_step rfl (fun K2 hK2 => ?_)
      go_simp
      exact hK2 _ _ (hK3 _ _ (stW_same hS (by decide) (Below.refl _ _)) rfl (fun _ _ h => h))
     ·
      have e0 : y 0 = _ := (hd 0 rfl).2
      have e3 : y 3 = _ := (hd 3 rfl).2
      obtain ⟨y, rfl⟩ := upd_at (y := y) (i := 0) e0
      obtain ⟨y, rfl⟩ := upd_at (y := y) (i := 3) e3
      dsimp [upd]
      refine wpOp_step rfl (fun K2 hK2 => ?_)
      go_simp
      refine (HW1.out w10 hS.1).mono ?_
      rintro e' w2 ⟨z, rfl, hz, hb⟩
      exact hK2 _ _ (hK3 _ _ (stW_same hS (by decide) hb) ⟨z, rfl, hz⟩ (fun _ _ h => phiW_below hb h))
     ·
      obtain ⟨z, e4, hz⟩ := (hd 4 rfl).2
      obtain ⟨y, rfl⟩ := upd_at (y := y) (i := 4) e4
      dsimp [upd]
      refine wpOp_step rfl (fun K2 hK2 => ?_)
      go_simp
      exact hK2 _ _ (hK3 _ _ (stW_same hS (by decide) (Below.refl _ _)) ⟨z, rfl, hz⟩ (fun _ _ h => h))
     ·
      obtain ⟨z, e5, hz⟩ := (hd 5 rfl).2
      obtain ⟨y, rfl⟩ := upd_at (y := y) (i := 5) e5
      dsimp [upd]
      refine wpOp_step rfl (fun K2 hK2 => ?_)
      go_simp
      exact hK2 _ _ (hK3 _ _ (stW_same hS (by decide) (Below.refl _ _)) ⟨z, rfl, hz⟩ (fun _ _ h => h))
     ·
      obtain ⟨z, e5, hz⟩ := (hd 5 rfl).2
      obtain ⟨y, rfl⟩ := upd_at (y := y) (i := 5) e5
      dsimp [upd]
      refine wpOp_step rfl (fun K2 hK2 => ?_)
      go_simp
      exact hK2 _ _ (hK3 _ _ (stW_same hS (by decide) (Below.refl _ _)) rfl (fun _ _ h => h))
     ·
      obtain ⟨z, e5, hz⟩ := (hd 5 rfl).2
      obtain ⟨y, rfl⟩ := upd_at (y := y) (i := 5) e5
      dsimp [upd]
      refine wpOp_step rfl (fun K2 hK2 => ?_)
      go_simp
      exact hK2 _ _ (hK3 _ _ (stW_same hS (by decide) (Below.refl _ _)) rfl (fun _ _ h => h))
     ·
      refine wpOp_step rfl (fun K2 hK2 => ?_)
      go_simp
      exact hK2 _ _ (hK3 _ _ (stW_alloc hS (by decide) hbi _) ⟨_, rfl, hS.1.size, _, _, _, _, _, _, Blk.new _ _ _⟩ (fun _ _ h => phiW_below (below_box _ _ _) h))
     ·
      obtain ⟨z, e6, hz⟩ := (hd 6 rfl).2
      obtain ⟨hb9, g, e9, hg, A1, n1, k1, A3, n3, k3, hB⟩ := hd 9 rfl
      have hS2 := stW_store (v := undef) hS (by decide) hb9 e9 hg ⟨_, _, _, _, _, _, hB⟩ hz
      obtain ⟨y, rfl⟩ := upd_at (y := y) (i := 6) e6
      obtain ⟨y, rfl⟩ := upd_at (y := y) (i := 9) e9
      dsimp [upd]
      have d0 := hB.cell 0
      have d1 := hB.cell 1
      have f0 := hB.free 0
      have f1 := hB.free 1
      simp only [List.getElem?_toArray, List.getElem?_cons_zero, List.getElem?_cons_succ] at d0 d1
      refine wpOp_step rfl (fun K2 hK2 => ?_)
      go_simp
      exact hK2 _ _ (hK3 undef _ hS2 trivial (fun _ _ hφ => phiW_store ⟨_, _, _, _, _, _, hB⟩ _ _ _ _ _ _ hφ))
     ·
      have e7 : y 7 = _ := (hd 7 rfl).2
      obtain ⟨y, rfl⟩ := upd_at (y := y) (i := 7) e7
      dsimp [upd]
      refine wpOp_step rfl (fun K2 hK2 => ?_)
      go_simp
      exact hK2 _ _ (hK3 _ _ (stW_same hS (by decide) (Below.refl _ _)) rfl (fun _ _ h => h))
    ·
     intro bl y w10 f hall hS hd
     obtain ⟨_, g10, z10, e10, hg10, hB10, hz10⟩ := hS.2 (hall 10 (by decide))
     have hb10 := hS.1
     have e8 : y 8 = _ := hd 8 (by decide)
     have e11 : y 11 = _ := hd 11 (by decide)
     clear hd
     obtain ⟨y, rfl⟩ := upd_at (y := y) (i := 8) e8
     obtain ⟨y, rfl⟩ := upd_at (y := y) (i := 9) e10
     obtain ⟨y, rfl⟩ := upd_at (y := y) (i := 11) e11
     dsimp [upd]
     refine wpAny_one (i := 12) (by kernel_rfl) ?_
     refine wpOp_step rfl (fun K2 hK2 => ?_)
     go_simp
     refine hK2 _ _ ?_
     clear hK2 K2
     refine wpAny_done (by kernel_rfl) ?_ _
     obtain ⟨⟨CA, ck⟩, PA, pk⟩ := z10
     dsimp only at hB10 hz10
     obtain ⟨yo2, rfl⟩ : ∃ yo2 : Nat → Value, yo2 = y := ⟨_, rfl⟩
     obtain ⟨d, rfl⟩ : ∃ d, d = g10 := ⟨_, rfl⟩
     have HD9 := Lib.hid hB10
     have HZ9 := Lib.hid hz10
     have HB9 := Lib.hid hb10
     have HBX9 : Hid (Below V.heap.size V w10) := below_next HBX.out hb10
     clear hS hB10 hz10 hb10 hg10 t0 t1 t2 ci hql8 hcl8 HTW HAW HBX HW1 HB9 hall
     obtain ⟨W9, rfl⟩ : ∃ W9 : World, W9 = w10 := ⟨_, rfl⟩
     have HTW9 := Lib.hid (HTV.out.keep HBX9.out HTV.out.lt)
     have HAW9 := Lib.hid (HAB.out.keep HBX9.out HAB.out.lt)
     have t0 := HTW9.out.cell 0
     have t1 := HTW9.out.cell 1
     have t2 := HTW9.out.cell 2
     have ci := (HBX9.out.cell (p := ⟨ca, i, none⟩) HAB.out.lt).trans hci
     simp only [List.getElem?_toArray, List.getElem?_cons_zero, List.getElem?_cons_succ] at t0 t1 t2
     have hql9 := HTW9.out.lt
     have hcl9 := HAW9.out.lt
     have HW3 : Hid (∀ W, Below W9.heap.size W9 W → Calls Try.prog 33 #[.agg #[.int .i64 m, .int .u8 a, .slice A2 rs.length k2], .string S] W fun e w' => ∃ z : (Option Addr × Nat) × (Option Addr × Nat), e = .returned (.agg #[.slice z.1.1 cs.length z.1.2, .slice z.2.1 ks.length z.2.2, .int .i64 (pl : Nat), .int .i64 er]) ∧ (WrZ cs ks z w' ∧ IntB ks z w') ∧ Below W.heap.size W w') := fun W hb => HW2.out W (below_next HBX9.out hb)
     go_upto_region 9 with fail
     refine wp_region_head 6 0 (by kernel_rfl) (fun y => (.agg #[.int .u8 bs, .int .u8 dr, .slice A n k]) :: (.slice XA xs.length xk) :: (.slice YA ys.length yk) :: (.pointer (some ⟨g, 0, none⟩)) :: undef :: undef :: u6 :: (.bool true) :: (.pointer (some ⟨q, 0, none⟩)) :: (.string S0) :: (.bool sb0) :: (.pointer (some ⟨ca, 0, none⟩)) :: (.int .i64 ↑i) :: (.pointer (some ⟨d, 0, none⟩)) :: (.int .i64 ↑pl) :: (.int .i64 er) :: y 5 :: (.bool true) :: (.agg #[.int .u8 bs, .int .u8 dr, .slice A n k]) :: (.agg #[.int .i64 m, .int .u8 a, .slice A2 rs.length k2]) :: (.tuple #[Value.string S0, .bool sb0]) :: (.agg #[.int .i64 m, .int .u8 a, .slice A2 rs.length k2]) :: (.slice XA xs.length xk) :: (.tuple #[Value.string S0, .bool sb0]) :: (.string S0) :: (.bool sb0) :: (yo 0) :: (yo 1) :: (yo 2) :: (yo 3) :: (yo 4) :: (yo 5) :: (yo 6) :: (yo 7) :: (yo 8) :: (yo 9) :: (.agg #[Value.string S0, Value.string S1, Value.string S2]) :: (.int .i64 ↑i) :: (.bool true) :: u39 :: u40 :: (yo2 5) :: (yo2 0) :: (yo2 1) :: (yo2 2) :: (yo2 3) :: (yo2 4) :: (yo2 6) :: (yo2 7) :: (.int .i64 er) :: y 0 :: y 1 :: y 2 :: y 3 :: y 4 :: u55 :: u56 :: u57 :: u58 :: u59 :: u60 :: u61 :: u62 :: u63 :: u64 :: u65 :: u66 :: u67 :: u68 :: u69 :: u70 :: u71 :: u72 :: u73 :: u74 :: u75 :: u76 :: u77 :: u78 :: u79 :: u80 :: u81 :: u82 :: u83 :: u84 :: undef :: [])
      (fun _ w' => Below W9.heap.size W9 w') (phiP [pv (.agg #[.int .i64 m, .int .u8 a, .slice A2 rs.length k2]), pv (.int .i64 i), pv (.pointer (some ⟨ca, i, none⟩)), pv (.string S), pq (fun (z : (Option Addr × Nat) × (Option Addr × Nat)) => .agg #[.slice z.1.1 cs.length z.1.2, .slice z.2.1 ks.length z.2.2, .int .i64 (pl : Nat), .int .i64 er]) (fun (z : (Option Addr × Nat) × (Option Addr × Nat)) w => WrZ cs ks z w ∧ IntB ks z w), pq (fun (g : Nat) => .pointer (some ⟨g, 0, none⟩)) (fun (g : Nat) w => W9.heap.size ≤ g ∧ Blk w g 64 #[.slice none 0 0, .slice none 0 0, .int .i64 0, .int .i64 0])]) (fun i => match i with | 0 => u50 | 1 => u51 | 2 => u52 | 3 => u53 | 4 => u54 | 5 => u16 | _ => undef)
      (by kernel_rfl) (by kernel_rfl) (by kernel_rfl) (by kernel_rfl) (fun i v wa wb h hb => phiP_keep (stay_cons (pv_st) (stay_cons (pv_st) (stay_cons (pv_st) (stay_cons (pv_st) (stay_cons (pq_st (fun _ _ _ h hb => ⟨wrZ_keep h.1 hb, intB_keep h.2 hb⟩)) (stay_cons (pq_st (fun _ _ _ h hb => ⟨h.1, h.2.keep hb h.2.lt⟩)) stay_nil)))))) h hb) (Below.refl _ _).drew [0, 1, 2, 3, 4, 5] (by kernel_rfl) ?_ ?_
     ·
      refine allCons ?_ (allCons ?_ (allCons ?_ (allCons ?_ (allCons ?_ (allCons ?_ (allNil))))))
      all_goals intro y w10 K hS hd hK
      ·
       have qq0 := (hS.cell (p := ⟨q, 0, none⟩) hql9).trans t0
       have qq1 := (hS.cell (p := ⟨q, 1, none⟩) hql9).trans t1
       have qq2 := (hS.cell (p := ⟨q, 2, none⟩) hql9).trans t2
       refine wpOp_step rfl (fun K2 hK2 => ?_)
       go_simp
       exact hK2 _ _ (hK _ _ hS rfl (Below.refl _ _))
      ·
       refine wpOp_step rfl (fun K2 hK2 => ?_)
       go_simp
       exact hK2 _ _ (hK _ _ hS rfl (Below.refl _ _))
      ·
       have e1 : y 1 = _ := hd 1 rfl
       obtain ⟨y, rfl⟩ := upd_at (y := y) (i := 1) e1
       dsimp [upd]
       refine wpOp_step rfl (fun K2 hK2 => ?_)
       go_simp
       exact hK2 _ _ (hK _ _ hS rfl (Below.refl _ _))
      ·
       have e2 : y 2 = _ := hd 2 rfl
       obtain ⟨y, rfl⟩ := upd_at (y := y) (i := 2) e2
       dsimp [upd]
       have qc := (hS.cell (p := ⟨ca, i, none⟩) hcl9).trans ci
       refine wpOp_step rfl (fun K2 hK2 => ?_)
       go_simp
       exact hK2 _ _ (hK _ _ hS rfl (Below.refl _ _))
      ·
       have e0 : y 0 = _ := hd 0 rfl
       have e3 : y 3 = _ := hd 3 rfl
       obtain ⟨y, rfl⟩ := upd_at (y := y) (i := 0) e0
       obtain ⟨y, rfl⟩ := upd_at (y := y) (i := 3) e3
       dsimp [upd]
       refine wpOp_step rfl (fun K2 hK2 => ?_)
       go_simp
       refine (HW3.out w10 hS).mono ?_
       rintro e' w2 ⟨z, rfl, hz, hb⟩
       exact hK2 _ _ (hK _ _ (below_next hS hb) ⟨z, rfl, hz⟩ hb)
      ·
       refine wpOp_step rfl (fun K2 hK2 => ?_)
       go_simp
       exact hK2 _ _ (hK _ _ (below_next hS (below_box _ _ _)) ⟨_, rfl, hS.size, Blk.new _ _ _⟩ (below_box _ _ _))
     ·
      intro y w10 f hS hd
      obtain ⟨z, e4, hz⟩ := hd 4 (by decide)
      obtain ⟨e, e5, hge, hB⟩ := hd 5 (by decide)
      clear hd
      obtain ⟨y, rfl⟩ := upd_at (y := y) (i := 4) e4
      obtain ⟨y, rfl⟩ := upd_at (y := y) (i := 5) e5
      dsimp [upd]
      obtain ⟨⟨DA, dk⟩, QA, qk⟩ := z
      dsimp only at hz ⊢
      have d0 := hB.cell 0
      have d1 := hB.cell 1
      have d2 := hB.cell 2
      have d3 := hB.cell 3
      have f0 := hB.free 0
      have f1 := hB.free 1
      have f2 := hB.free 2
      have f3 := hB.free 3
      simp only [List.getElem?_toArray, List.getElem?_cons_zero, List.getElem?_cons_succ] at d0 d1 d2 d3
      refine wpAny_one (i := 6) (by kernel_rfl) ?_
      refine wpOp_step rfl (fun K2 hK2 => ?_)
      go_simp
      refine hK2 _ _ ?_
      clear hK2 K2
      refine wpAny_done (by kernel_rfl) ?_ _
      have h1b : Blk (w10.setCell ⟨e, 0, none⟩ (.slice DA cs.length dk)) e 64 #[.slice DA cs.length dk, .slice none 0 0, .int .i64 0, .int .i64 0] := hB.set 0 _
      have h2b : Blk ((w10.setCell ⟨e, 0, none⟩ (.slice DA cs.length dk)).setCell ⟨e, 1, none⟩ (.slice QA ks.length qk)) e 64 #[.slice DA cs.length dk, .slice QA ks.length qk, .int .i64 0, .int .i64 0] := h1b.set 1 _
      have h3b : Blk (((w10.setCell ⟨e, 0, none⟩ (.slice DA cs.length dk)).setCell ⟨e, 1, none⟩ (.slice QA ks.length qk)).setCell ⟨e, 2, none⟩ (.int .i64 pl)) e 64 #[.slice DA cs.length dk, .slice QA ks.length qk, .int .i64 pl, .int .i64 0] := h2b.set 2 _
      have HE4 : Hid (Blk ((((w10.setCell ⟨e, 0, none⟩ (.slice DA cs.length dk)).setCell ⟨e, 1, none⟩ (.slice QA ks.length qk)).setCell ⟨e, 2, none⟩ (.int .i64 pl)).setCell ⟨e, 3, none⟩ (.int .i64 er)) e 64 #[.slice DA cs.length dk, .slice QA ks.length qk, .int .i64 pl, .int .i64 er]) := h3b.set 3 _
      have q1 := wrZ_res (i := 0) hz.1 hz.2 hB (fun i z => two_res i z) (.slice DA cs.length dk)
      have q2 := wrZ_res (i := 1) q1.1 q1.2 h1b (fun i z => two_res i z) (.slice QA ks.length qk)
      have q3 := wrZ_res (i := 2) q2.1 q2.2 h2b (fun i z => two_res i z) (.int .i64 pl)
      have HZB := Lib.hid (wrZ_res (i := 3) q3.1 q3.2 h3b (fun i z => two_res i z) (.int .i64 er)).1
      have HBA : Hid (Below W9.heap.size W9 ((((w10.setCell ⟨e, 0, none⟩ (.slice DA cs.length dk)).setCell ⟨e, 1, none⟩ (.slice QA ks.length qk)).setCell ⟨e, 2, none⟩ (.int .i64 pl)).setCell ⟨e, 3, none⟩ (.int .i64 er))) := (((hS.setCell hge _).setCell hge _).setCell hge _).setCell hge _
      clear h1b h2b h3b q1 q2 q3 hz hB hS hge d0 d1 d2 d3 f0 f1 f2 f3 t0 t1 t2 ci hql9 hcl9 HTW9 HAW9 HW3 HW2
      generalize (((w10.setCell ⟨e, 0, none⟩ (.slice DA cs.length dk)).setCell ⟨e, 1, none⟩ (.slice QA ks.length qk)).setCell ⟨e, 2, none⟩ (.int .i64 pl)).setCell ⟨e, 3, none⟩ (.int .i64 er) = WA at *
      have HZA := Lib.hid (wrZ_keep HZ9.out HBA.out)
      have HDA := Lib.hid (HD9.out.keep HBA.out HD9.out.lt)
      have HBXA : Hid (Below V.heap.size V WA) := below_next HBX9.out HBA.out
      have HTA := Lib.hid (HTV.out.keep HBXA.out HTV.out.lt)
      have HAA := Lib.hid (HAB.out.keep HBXA.out HAB.out.lt)
      have HSA : Hid (∀ W, Below WA.heap.size WA W → Calls Try.prog 34 #[.agg #[.slice CA cs.length ck, .slice PA ks.length pk], .agg #[.slice DA cs.length dk, .slice QA ks.length qk]] W fun e w' => e = .returned (.bool true) ∧ Below W.heap.size W w') := fun W hb => by
       have h := same6_any CA PA DA QA cs.length ck ks.length pk cs.length dk ks.length qk cs ks cs ks W ⟨HZA.out.1.up hb, HZA.out.2.up hb, rfl, rfl⟩ ⟨HZB.out.1.up hb, HZB.out.2.up hb, rfl, rfl⟩ hcl hkl
       rw [eqB_refl rfl, eqB_refl rfl] at h
       exact h
      have HCA : Hid (∀ W, Below WA.heap.size WA W → Calls Try.prog 35 #[.agg #[.int .i64 m, .int .u8 a, .slice A2 rs.length k2], .string S] W fun e w' => e = .returned (.int .i64 v) ∧ Below W.heap.size W w') := fun W hb => HC1.out W (below_next HBXA.out hb)
      have HCB : Hid (∀ W, Below WA.heap.size WA W → Calls Try.prog 36 #[.agg #[.int .i64 m, .int .u8 a, .slice A2 rs.length k2], .string S] W fun e w' => e = .returned (.int .i64 v) ∧ Below W.heap.size W w') := fun W hb => HC2.out W (below_next HBXA.out hb)
      have t0 := HTA.out.cell 0
      have t1 := HTA.out.cell 1
      have t2 := HTA.out.cell 2
      have x0 := HDA.out.cell 0
      have x1 := HDA.out.cell 1
      have z0 := HE4.out.cell 0
      have z1 := HE4.out.cell 1
      have z2 := HE4.out.cell 2
      have z3 := HE4.out.cell 3
      have ci := (HBXA.out.cell (p := ⟨ca, i, none⟩) HAB.out.lt).trans hci
      simp only [List.getElem?_toArray, List.getElem?_cons_zero, List.getElem?_cons_succ] at t0 t1 t2 x0 x1 z0 z1 z2 z3
      have hqlA := HTA.out.lt
      have hclA := HAA.out.lt
      have hdl := HDA.out.lt
      have hel := HE4.out.lt
      obtain ⟨yo3, rfl⟩ : ∃ yo3 : Nat → Value, yo3 = y := ⟨_, rfl⟩
      go_upto_region 10 with fail
      refine wp_region_head 29 0 (by kernel_rfl) (fun y => (.agg #[.int .u8 bs, .int .u8 dr, .slice A n k]) :: (.slice XA xs.length xk) :: (.slice YA ys.length yk) :: (.pointer (some ⟨g, 0, none⟩)) :: undef :: undef :: u6 :: (.bool true) :: (.pointer (some ⟨q, 0, none⟩)) :: (.string S0) :: (.bool sb0) :: (.pointer (some ⟨ca, 0, none⟩)) :: (.int .i64 ↑i) :: (.pointer (some ⟨d, 0, none⟩)) :: (.int .i64 ↑pl) :: (.int .i64 er) :: (.pointer (some ⟨e, 0, none⟩)) :: (.bool true) :: (.agg #[.int .u8 bs, .int .u8 dr, .slice A n k]) :: (.agg #[.int .i64 m, .int .u8 a, .slice A2 rs.length k2]) :: (.tuple #[Value.string S0, .bool sb0]) :: (.agg #[.int .i64 m, .int .u8 a, .slice A2 rs.length k2]) :: (.slice XA xs.length xk) :: (.tuple #[Value.string S0, .bool sb0]) :: (.string S0) :: (.bool sb0) :: (yo 0) :: (yo 1) :: (yo 2) :: (yo 3) :: (yo 4) :: (yo 5) :: (yo 6) :: (yo 7) :: (yo 8) :: (yo 9) :: (.agg #[Value.string S0, Value.string S1, Value.string S2]) :: (.int .i64 ↑i) :: (.bool true) :: u39 :: u40 :: (yo2 5) :: (yo2 0) :: (yo2 1) :: (yo2 2) :: (yo2 3) :: (yo2 4) :: (yo2 6) :: (yo2 7) :: (.int .i64 er) :: (yo3 0) :: (yo3 1) :: (yo3 2) :: (yo3 3) :: (.agg #[.slice DA cs.length dk, .slice QA ks.length qk, .int .i64 ↑pl, .int .i64 er]) :: y 0 :: y 1 :: y 2 :: y 3 :: y 4 :: y 5 :: y 6 :: y 7 :: y 8 :: y 9 :: y 10 :: y 11 :: y 12 :: y 13 :: y 14 :: y 15 :: y 16 :: y 17 :: y 18 :: y 19 :: y 20 :: y 21 :: y 22 :: y 23 :: y 24 :: y 25 :: y 26 :: y 27 :: y 28 :: u84 :: undef :: [])
       (fun _ w' => Below WA.heap.size WA w') (phiP [pv (.agg #[.slice CA cs.length ck, .slice PA ks.length pk]), pv (.pointer (some ⟨e, 0, none⟩)), pv (.agg #[.slice DA cs.length dk, .slice QA ks.length qk]), pv (.bool true), pv (.bool false), pv (.bool false), pv (.int .i64 (pl : Nat)), pv (.pointer (some ⟨e, 2, none⟩)), pv (.int .i64 (pl : Nat)), pv (.bool false), pv (.bool false), pv (.bool false), pv (.int .i64 er), pv (.pointer (some ⟨e, 3, none⟩)), pv (.int .i64 er), pv (.bool false), pv (.bool false), pv (.bool false), pv (.agg #[.int .i64 m, .int .u8 a, .slice A2 rs.length k2]), pv (.int .i64 i), pv (.pointer (some ⟨ca, i, none⟩)), pv (.string S), pv (.int .i64 v), pv (.agg #[.int .i64 m, .int .u8 a, .slice A2 rs.length k2]), pv (.int .i64 i), pv (.pointer (some ⟨ca, i, none⟩)), pv (.string S), pv (.int .i64 v), pv (.bool false)]) (fun i => match i with | 0 => u55 | 1 => u56 | 2 => u57 | 3 => u58 | 4 => u59 | 5 => u60 | 6 => u61 | 7 => u62 | 8 => u63 | 9 => u64 | 10 => u65 | 11 => u66 | 12 => u67 | 13 => u68 | 14 => u69 | 15 => u70 | 16 => u71 | 17 => u72 | 18 => u73 | 19 => u74 | 20 => u75 | 21 => u76 | 22 => u77 | 23 => u78 | 24 => u79 | 25 => u80 | 26 => u81 | 27 => u82 | 28 => u83 | _ => undef)
       (by kernel_rfl) (by kernel_rfl) (by kernel_rfl) (by kernel_rfl) (fun i v wa wb h hb => phiP_keep (stay_cons (pv_st) (stay_cons (pv_st) (stay_cons (pv_st) (stay_cons (pv_st) (stay_cons (pv_st) (stay_cons (pv_st) (stay_cons (pv_st) (stay_cons (pv_st) (stay_cons (pv_st) (stay_cons (pv_st) (stay_cons (pv_st) (stay_cons (pv_st) (stay_cons (pv_st) (stay_cons (pv_st) (stay_cons (pv_st) (stay_cons (pv_st) (stay_cons (pv_st) (stay_cons (pv_st) (stay_cons (pv_st) (stay_cons (pv_st) (stay_cons (pv_st) (stay_cons (pv_st) (stay_cons (pv_st) (stay_cons (pv_st) (stay_cons (pv_st) (stay_cons (pv_st) (stay_cons (pv_st) (stay_cons (pv_st) (stay_cons (pv_st) stay_nil))))))))))))))))))))))))))))) h hb) (Below.refl _ _).drew [0, 1, 2, 3, 4, 5, 6, 7, 8, 9, 10, 11, 12, 13, 14, 15, 16, 17, 18, 19, 20, 21, 22, 23, 24, 25, 26, 27, 28] (by kernel_rfl) ?_ ?_
      ·
       refine allCons ?_ (allCons ?_ (allCons ?_ (allCons ?_ (allCons ?_ (allCons ?_ (allCons ?_ (allCons ?_ (allCons ?_ (allCons ?_ (allCons ?_ (allCons ?_ (allCons ?_ (allCons ?_ (allCons ?_ (allCons ?_ (allCons ?_ (allCons ?_ (allCons ?_ (allCons ?_ (allCons ?_ (allCons ?_ (allCons ?_ (allCons ?_ (allCons ?_ (allCons ?_ (allCons ?_ (allCons ?_ (allCons ?_ (allNil)))))))))))))))))))))))))))))
       all_goals intro y w10 K hS hd hK
       ·
        have qd0 := (hS.cell (p := ⟨d, 0, none⟩) hdl).trans x0
        have qd1 := (hS.cell (p := ⟨d, 1, none⟩) hdl).trans x1
        refine wpOp_step rfl (fun K2 hK2 => ?_)
        go_simp
        exact hK2 _ _ (hK _ _ hS rfl (Below.refl _ _))
       ·
        refine wpOp_step rfl (fun K2 hK2 => ?_)
        go_simp
        exact hK2 _ _ (hK _ _ hS rfl (Below.refl _ _))
       ·
        have e1 : y 1 = _ := hd 1 rfl
        obtain ⟨y, rfl⟩ := upd_at (y := y) (i := 1) e1
        dsimp [upd]
        have qe0 := (hS.cell (p := ⟨e, 0, none⟩) hel).trans z0
        have qe1 := (hS.cell (p := ⟨e, 1, none⟩) hel).trans z1
        refine wpOp_step rfl (fun K2 hK2 => ?_)
        go_simp
        exact hK2 _ _ (hK _ _ hS rfl (Below.refl _ _))
       ·
        have e0 : y 0 = _ := hd 0 rfl
        have e2 : y 2 = _ := hd 2 rfl
        obtain ⟨y, rfl⟩ := upd_at (y := y) (i := 0) e0
        obtain ⟨y, rfl⟩ := upd_at (y := y) (i := 2) e2
        dsimp [upd]
        refine wpOp_step rfl (fun K2 hK2 => ?_)
        go_simp
        refine (HSA.out w10 hS).mono ?_
        rintro e' w2 ⟨rfl, hb2⟩
        exact hK2 _ _ (hK _ _ (below_next hS hb2) rfl hb2)
       ·
        have e3 : y 3 = _ := hd 3 rfl
        obtain ⟨y, rfl⟩ := upd_at (y := y) (i := 3) e3
        dsimp [upd]
        refine wpOp_step rfl (fun K2 hK2 => ?_)
        go_simp
        exact hK2 _ _ (hK _ _ hS rfl (Below.refl _ _))
       ·
        have e4 : y 4 = _ := hd 4 rfl
        obtain ⟨y, rfl⟩ := upd_at (y := y) (i := 4) e4
        dsimp [upd]
        refine wpOp_step rfl (fun K2 hK2 => ?_)
        go_simp
        exact hK2 _ _ (hK _ _ hS rfl (Below.refl _ _))
       ·
        have e5 : y 5 = _ := hd 5 rfl
        obtain ⟨y, rfl⟩ := upd_at (y := y) (i := 5) e5
        dsimp [upd]
        refine wpOp_step rfl (fun K2 hK2 => ?_)
        go_simp
        exact hK2 _ _ (hK _ _ hS rfl (Below.refl _ _))
       ·
        have e5 : y 5 = _ := hd 5 rfl
        obtain ⟨y, rfl⟩ := upd_at (y := y) (i := 5) e5
        dsimp [upd]
        refine wpOp_step rfl (fun K2 hK2 => ?_)
        go_simp
        exact hK2 _ _ (hK _ _ hS rfl (Below.refl _ _))
       ·
        have e5 : y 5 = _ := hd 5 rfl
        have e7 : y 7 = _ := hd 7 rfl
        obtain ⟨y, rfl⟩ := upd_at (y := y) (i := 5) e5
        obtain ⟨y, rfl⟩ := upd_at (y := y) (i := 7) e7
        dsimp [upd]
        have qe2 := (hS.cell (p := ⟨e, 2, none⟩) hel).trans z2
        refine wpOp_step rfl (fun K2 hK2 => ?_)
        go_simp
        exact hK2 _ _ (hK _ _ hS rfl (Below.refl _ _))
       ·
        have e5 : y 5 = _ := hd 5 rfl
        have e6 : y 6 = _ := hd 6 rfl
        have e8 : y 8 = _ := hd 8 rfl
        obtain ⟨y, rfl⟩ := upd_at (y := y) (i := 5) e5
        obtain ⟨y, rfl⟩ := upd_at (y := y) (i := 6) e6
        obtain ⟨y, rfl⟩ := upd_at (y := y) (i := 8) e8
        dsimp [upd]
        refine wpOp_step rfl (fun K2 hK2 => ?_)
        go_simp
        exact hK2 _ _ (hK _ _ hS rfl (Below.refl _ _))
       ·
        have e5 : y 5 = _ := hd 5 rfl
        have e9 : y 9 = _ := hd 9 rfl
        obtain ⟨y, rfl⟩ := upd_at (y := y) (i := 5) e5
        obtain ⟨y, rfl⟩ := upd_at (y := y) (i := 9) e9
        dsimp [upd]
        refine wpOp_step rfl (fun K2 hK2 => ?_)
        go_simp
        exact hK2 _ _ (hK _ _ hS rfl (Below.refl _ _))
       ·
        have e10 : y 10 = _ := hd 10 rfl
        obtain ⟨y, rfl⟩ := upd_at (y := y) (i := 10) e10
        dsimp [upd]
        refine wpOp_step rfl (fun K2 hK2 => ?_)
        go_simp
        exact hK2 _ _ (hK _ _ hS rfl (Below.refl _ _))
       ·
        have e11 : y 11 = _ := hd 11 rfl
        obtain ⟨y, rfl⟩ := upd_at (y := y) (i := 11) e11
        dsimp [upd]
        refine wpOp_step rfl (fun K2 hK2 => ?_)
        go_simp
        exact hK2 _ _ (hK _ _ hS rfl (Below.refl _ _))
       ·
        have e11 : y 11 = _ := hd 11 rfl
        obtain ⟨y, rfl⟩ := upd_at (y := y) (i := 11) e11
        dsimp [upd]
        refine wpOp_step rfl (fun K2 hK2 => ?_)
        go_simp
        exact hK2 _ _ (hK _ _ hS rfl (Below.refl _ _))
       ·
        have e11 : y 11 = _ := hd 11 rfl
        have e13 : y 13 = _ := hd 13 rfl
        obtain ⟨y, rfl⟩ := upd_at (y := y) (i := 11) e11
        obtain ⟨y, rfl⟩ := upd_at (y := y) (i := 13) e13
        dsimp [upd]
        have qe3 := (hS.cell (p := ⟨e, 3, none⟩) hel).trans z3
        refine wpOp_step rfl (fun K2 hK2 => ?_)
        go_simp
        exact hK2 _ _ (hK _ _ hS rfl (Below.refl _ _))
       ·
        have e11 : y 11 = _ := hd 11 rfl
        have e12 : y 12 = _ := hd 12 rfl
        have e14 : y 14 = _ := hd 14 rfl
        obtain ⟨y, rfl⟩ := upd_at (y := y) (i := 11) e11
        obtain ⟨y, rfl⟩ := upd_at (y := y) (i := 12) e12
        obtain ⟨y, rfl⟩ := upd_at (y := y) (i := 14) e14
        dsimp [upd]
        refine wpOp_step rfl (fun K2 hK2 => ?_)
        go_simp
        exact hK2 _ _ (hK _ _ hS rfl (Below.refl _ _))
       ·
        have e11 : y 11 = _ := hd 11 rfl
        have e15 : y 15 = _ := hd 15 rfl
        obtain ⟨y, rfl⟩ := upd_at (y := y) (i := 11) e11
        obtain ⟨y, rfl⟩ := upd_at (y := y) (i := 15) e15
        dsimp [upd]
        refine wpOp_step rfl (fun K2 hK2 => ?_)
        go_simp
        exact hK2 _ _ (hK _ _ hS rfl (Below.refl _ _))
       ·
        have e16 : y 16 = _ := hd 16 rfl
        obtain ⟨y, rfl⟩ := upd_at (y := y) (i := 16) e16
        dsimp [upd]
        refine wpOp_step rfl (fun K2 hK2 => ?_)
        go_simp
        exact hK2 _ _ (hK _ _ hS rfl (Below.refl _ _))
       ·
        have e17 : y 17 = _ := hd 17 rfl
        obtain ⟨y, rfl⟩ := upd_at (y := y) (i := 17) e17
        dsimp [upd]
        have qq0 := (hS.cell (p := ⟨q, 0, none⟩) hqlA).trans t0
        have qq1 := (hS.cell (p := ⟨q, 1, none⟩) hqlA).trans t1
        have qq2 := (hS.cell (p := ⟨q, 2, none⟩) hqlA).trans t2
        refine wpOp_step rfl (fun K2 hK2 => ?_)
        go_simp
        exact hK2 _ _ (hK _ _ hS rfl (Below.refl _ _))
       ·
        have e17 : y 17 = _ := hd 17 rfl
        obtain ⟨y, rfl⟩ := upd_at (y := y) (i := 17) e17
        dsimp [upd]
        refine wpOp_step rfl (fun K2 hK2 => ?_)
        go_simp
        exact hK2 _ _ (hK _ _ hS rfl (Below.refl _ _))
       ·
        have e17 : y 17 = _ := hd 17 rfl
        have e19 : y 19 = _ := hd 19 rfl
        obtain ⟨y, rfl⟩ := upd_at (y := y) (i := 17) e17
        obtain ⟨y, rfl⟩ := upd_at (y := y) (i := 19) e19
        dsimp [upd]
        refine wpOp_step rfl (fun K2 hK2 => ?_)
        go_simp
        exact hK2 _ _ (hK _ _ hS rfl (Below.refl _ _))
       ·
        have e17 : y 17 = _ := hd 17 rfl
        have e20 : y 20 = _ := hd 20 rfl
        obtain ⟨y, rfl⟩ := upd_at (y := y) (i := 17) e17
        obtain ⟨y, rfl⟩ := upd_at (y := y) (i := 20) e20
        dsimp [upd]
        have qc := (hS.cell (p := ⟨ca, i, none⟩) hclA).trans ci
        refine wpOp_step rfl (fun K2 hK2 => ?_)
        go_simp
        exact hK2 _ _ (hK _ _ hS rfl (Below.refl _ _))
       ·
        have e17 : y 17 = _ := hd 17 rfl
        have e18 : y 18 = _ := hd 18 rfl
        have e21 : y 21 = _ := hd 21 rfl
        obtain ⟨y, rfl⟩ := upd_at (y := y) (i := 17) e17
        obtain ⟨y, rfl⟩ := upd_at (y := y) (i := 18) e18
        obtain ⟨y, rfl⟩ := upd_at (y := y) (i := 21) e21
        dsimp [upd]
        refine wpOp_step rfl (fun K2 hK2 => ?_)
        go_simp
        refine (HCA.out w10 hS).mono ?_
        rintro e' w2 ⟨rfl, hb2⟩
        exact hK2 _ _ (hK _ _ (below_next hS hb2) rfl hb2)
       ·
        have e17 : y 17 = _ := hd 17 rfl
        obtain ⟨y, rfl⟩ := upd_at (y := y) (i := 17) e17
        dsimp [upd]
        have qq0 := (hS.cell (p := ⟨q, 0, none⟩) hqlA).trans t0
        have qq1 := (hS.cell (p := ⟨q, 1, none⟩) hqlA).trans t1
        have qq2 := (hS.cell (p := ⟨q, 2, none⟩) hqlA).trans t2
        refine wpOp_step rfl (fun K2 hK2 => ?_)
        go_simp
        exact hK2 _ _ (hK _ _ hS rfl (Below.refl _ _))
       ·
        have e17 : y 17 = _ := hd 17 rfl
        obtain ⟨y, rfl⟩ := upd_at (y := y) (i := 17) e17
        dsimp [upd]
        refine wpOp_step rfl (fun K2 hK2 => ?_)
        go_simp
        exact hK2 _ _ (hK _ _ hS rfl (Below.refl _ _))
       ·
        have e17 : y 17 = _ := hd 17 rfl
        have e24 : y 24 = _ := hd 24 rfl
        obtain ⟨y, rfl⟩ := upd_at (y := y) (i := 17) e17
        obtain ⟨y, rfl⟩ := upd_at (y := y) (i := 24) e24
        dsimp [upd]
        refine wpOp_step rfl (fun K2 hK2 => ?_)
        go_simp
        exact hK2 _ _ (hK _ _ hS rfl (Below.refl _ _))
       ·
        have e17 : y 17 = _ := hd 17 rfl
        have e25 : y 25 = _ := hd 25 rfl
        obtain ⟨y, rfl⟩ := upd_at (y := y) (i := 17) e17
        obtain ⟨y, rfl⟩ := upd_at (y := y) (i := 25) e25
        dsimp [upd]
        have qc := (hS.cell (p := ⟨ca, i, none⟩) hclA).trans ci
        refine wpOp_step rfl (fun K2 hK2 => ?_)
        go_simp
        exact hK2 _ _ (hK _ _ hS rfl (Below.refl _ _))
       ·
        have e17 : y 17 = _ := hd 17 rfl
        have e23 : y 23 = _ := hd 23 rfl
        have e26 : y 26 = _ := hd 26 rfl
        obtain ⟨y, rfl⟩ := upd_at (y := y) (i := 17) e17
        obtain ⟨y, rfl⟩ := upd_at (y := y) (i := 23) e23
        obtain ⟨y, rfl⟩ := upd_at (y := y) (i := 26) e26
        dsimp [upd]
        refine wpOp_step rfl (fun K2 hK2 => ?_)
        go_simp
        refine (HCB.out w10 hS).mono ?_
        rintro e' w2 ⟨rfl, hb2⟩
        exact hK2 _ _ (hK _ _ (below_next hS hb2) rfl hb2)
       ·
        have e17 : y 17 = _ := hd 17 rfl
        have e22 : y 22 = _ := hd 22 rfl
        have e27 : y 27 = _ := hd 27 rfl
        obtain ⟨y, rfl⟩ := upd_at (y := y) (i := 17) e17
        obtain ⟨y, rfl⟩ := upd_at (y := y) (i := 22) e22
        obtain ⟨y, rfl⟩ := upd_at (y := y) (i := 27) e27
        dsimp [upd]
        refine wpOp_step rfl (fun K2 hK2 => ?_)
        go_simp
        exact hK2 _ _ (hK _ _ hS rfl (Below.refl _ _))
      ·
       intro y w10 f hS hd
       have e17 : y 17 = _ := hd 17 (by decide)
       have e28 : y 28 = _ := hd 28 (by decide)
       clear hd
       obtain ⟨y, rfl⟩ := upd_at (y := y) (i := 17) e17
       obtain ⟨y, rfl⟩ := upd_at (y := y) (i := 28) e28
       dsimp [upd]
       refine wpAny_one (i := 29) (by kernel_rfl) ?_
       refine wpOp_step rfl (fun K2 hK2 => ?_)
       go_simp
       refine hK2 _ _ ?_
       clear hK2 K2
       refine wpAny_done (by kernel_rfl) ?_ _
       have HBE : Hid (Below V.heap.size V w10) := below_next HBXA.out hS
       clear hS HSA HCA HCB HDA HE4 HTA HAA HBXA HZA HZB t0 t1 t2 x0 x1 z0 z1 z2 z3 ci HC1 HC2
       go_wp2_with fail
       go_roundg (3 - (i + 1))
       case measure => rw [HGK.out]; omega
       case rel => exact ⟨i + 1, hlt, rfl, by go_num, HBE.out⟩
   ·
    obtain rfl : i = 3 := by omega
    have HBE : Hid (Below w.heap.size w wr) := below_next HBV.out HBX.out
    clear HGK HBX
    go_wp2_with fail
    go_ret
    exact ⟨rfl, HBE.out⟩
end Go.Proofs.Ytpkdlljefkbmpaa

/-! sixdotlaw06.TranslateMatchesReference: the row. -/
namespace Go.Proofs.Ytpkdlljefkbmpaa
open Go.ChangeShapes Go.WideShapes Go.ChangeAt Go.WideMaps Go.WideElems Go.RowKit

theorem own : ownKnob Try.prog.godebug = none := by kernel_rfl
theorem laidOut : laidOutB Try.prog = true := by kernel_rfl
set_option maxRecDepth 100000 in
theorem lifted (os : Os) (started : os.Started) (H : Type) (enc : TypeId × Value → H) :
  ReturnsInHanded {} Try.checked os 8 .any (Rows.translateMatchesReferenceSpec.pre6 enc Try.prog Try.f8 Rows.translateMatchesReferenceRow.domain false) (Rows.translateMatchesReferenceSpec.post enc Try.prog Try.f8 false true false false) := by
 refine returnsInHanded_of_change (C := Try.checked) own started (by kernel_rfl) Try.func8
  (ChangeSpec.witness6 (enc := enc) (C := Try.checked) false ⟨#[], #[.agg #[.int .u8 0, .int .u8 0, .slice none 0 0], .slice none 0 0, .slice none 0 0], []⟩ 8 (by kernel_rfl) (by kernel_rfl) (by kernel_rfl) (by kernel_rfl)) ?_
 intro W base args ds gs before hval0 hW hcnd _
 have hval : ∀ (j : Nat) t v, Try.f8.params[j]? = some t → args[j]? = some v → Value.okWide Try.prog W .any base t v := hval0
 have hW' := hW
 obtain ⟨p, q, hA0, hV, rfl, hfz, hnd⟩ := hW
 have hA : DataW.TrodAll enc Try.prog W 0 (fun _ => true) true Try.f8.params.toList args.toList ds p := hA0
 rw [Try.params8] at hA hval
 obtain ⟨v0, vs0, d0, ds0, p0, q0, hargs, rfl, rfl, h0, r0⟩ := trodAll_cons hA
 obtain ⟨v1, vs1, d1, ds1, p1, q1, rfl, rfl, rfl, h1, r1⟩ := trodAll_cons r0
 obtain ⟨v2, vs2, d2, ds2, p2, q2, rfl, rfl, rfl, h2, r2⟩ := trodAll_cons r1
 obtain ⟨rfl, rfl, rfl⟩ := trodAll_nil r2
 obtain rfl : args = #[v0, v1, v2] := by cases args; simp_all
 obtain ⟨rfl, rfl⟩ := trodVars_none hV
 have k0 := h0
 have lt0 : ∀ x ∈ p0, x.block < W.heap.size := by obtain ⟨m, hm⟩ := k0; exact DataW.trod_lt m _ _ _ hm
 have k1 := h1
 have lt1 : ∀ x ∈ p1, x.block < W.heap.size := by obtain ⟨m, hm⟩ := k1; exact DataW.trod_lt m _ _ _ hm
 have k2 := h2
 have lt2 : ∀ x ∈ p2, x.block < W.heap.size := by obtain ⟨m, hm⟩ := k2; exact DataW.trod_lt m _ _ _ hm
 obtain ⟨bs, dr, A, n, k, rfl, hr0, hbs, hdr⟩ := open_raw (hval 0 24 v0 rfl rfl) h0
 obtain ⟨XA1, xk1, xs1, rfl, hx1, hz1⟩ := open_bytesL (hval 1 25 v1 rfl rfl) h1
 obtain ⟨XA2, xk2, xs2, rfl, hx2, hz2, hk2⟩ := open_bytesK (hval 2 25 v2 rfl rfl) h2
 clear hA0 hval0
 refine (walk_match bs dr A n k XA1 xk1 xs1 XA2 xk2 xs2 W hr0 hbs hdr hx1 hz1 hx2 hz2 hk2).mono fun e W' ⟨he, bel⟩ => ?_
 subst he
 exact ⟨_, rfl, _, _, _, [], _, [], hW', trodAll_mk1 (shut_bool Try.underlying4 _), (trodAll_cons_mk (Below.trod laidOut (by kernel_rfl) (of_decide_eq_true (by kernel_rfl)) k0 bel lt0) (trodAll_cons_mk (Below.trod laidOut (by kernel_rfl) (of_decide_eq_true (by kernel_rfl)) k1 bel lt1) (trodAll_cons_mk (Below.trod laidOut (by kernel_rfl) (of_decide_eq_true (by kernel_rfl)) k2 bel lt2) trodAll_mk0))), rfl, bel.frame _, fun h => by cases h⟩

theorem over : Rows.translateMatchesReferenceRow.holds Try.pinned (OpenSpec.ofChange Rows.translateMatchesReferenceSpec) :=
 OpenClaim.holds_of_wide 8 Try.f8 rfl rfl rfl rfl rfl rfl rfl ⟨rfl, rfl, rfl, rfl, rfl⟩ rfl rfl rfl rfl rfl (by kernel_rfl) Try.func8 (by kernel_rfl)
  (of_decide_eq_true (by kernel_rfl)) (by unfold Func.isWrapper; first | (rw [if_pos (by decide +kernel)]; kernel_rfl) | (rw [if_neg (by decide +kernel)]; exact ⟨rfl, rfl⟩))
  (fun os started H enc _ => lifted os started H enc)

theorem proved : Rows.TranslateMatchesReferenceSaid := over
end Go.Proofs.Ytpkdlljefkbmpaa
