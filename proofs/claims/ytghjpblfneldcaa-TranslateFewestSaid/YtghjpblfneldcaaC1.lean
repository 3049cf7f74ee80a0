/- Merged by program: Lf1a Lf1 -/
import Derived.Test.YtghjpblfneldcaaT7
import Derived.Test.YtghjpblfneldcaaQ20
import Derived.Test.YtghjpblfneldcaaQ15
import Derived.Test.YtghjpblfneldcaaQ22
import Derived.ProofKit
import Derived.OpenShut

/-! law06.TranslateFewest. -/
namespace Go.Proofs.Ytghjpblfneldcaa
open Go.RowKit Go.Maps
theorem bytes_inj {a b : ByteArray} (h : bytes a = bytes b) : a.toList = b.toList := by
  rw [toList_bytes, toList_bytes] at h
  exact (List.map_inj_right (fun x y e => UInt8.toNat_inj.1 e)).1 h
/-- What leads to the end is written with its cells. -/
theorem wrs_true {m a : Int} {rs : List Rule} (hG : GoodL m a rs) (hf : ∀ x ∈ rs, x.fits) {S : ByteArray} {ks : List Int} (h : GdE (edgP rs (bytes S)) (finP a (bytes S)) (0, 0) ks) : wrsB a rs S (cellsK rs ks) ks = true := by
  obtain ⟨h1, h2⟩ := (gdP_iff hG hf).1 h
  obtain ⟨r1, r2, _⟩ := ok_run h1
  unfold wrsB
  have e : (strOf (runT rs ks).p).toList = S.toList := bytes_inj (by rw [r1, bytes_strOf prt_bd, h2])
  rw [h1, e, r2]
  simp [eqB, cellsK]
theorem wr_of_path {m a : Int} {rs : List Rule} (hG : GoodL m a rs) (hf : ∀ x ∈ rs, x.fits) {S : ByteArray} {ks cs k2s : List Int} {pl : Nat} {er : Int} (hok : runOk a rs ks = true) (hp : prtL rs ks = bytes S) (h : WrR a rs (bytes S) cs k2s pl er) : BestE (edgP rs (bytes S)) (cstR rs) (finP a (bytes S)) (0, 0) k2s ∧ cs = cellsK rs k2s ∧ pl = S.size ∧ er = 0 := by
  have hg : GdE (edgP rs (bytes S)) (finP a (bytes S)) (0, 0) ks := (gdP_iff hG hf).2 ⟨hok, hp⟩
  rcases h with ⟨t, _⟩ | ⟨_, ⟨h1, h2, h3, h4⟩ | ⟨h1, _⟩⟩
  · have h5 := (ok_blanks hG hok).2.1
    rw [hp, t] at h5
    cases h5
  · exact ⟨h1, h2, by rw [h3, bytes_len], h4⟩
  · exact absurd hg (h1 ks)
set_option maxRecDepth 10000 in
set_option maxHeartbeats 8000000 in
theorem walk_fewest (bs dr : Int) (A : Option Addr) (n k : Nat) (XA : Option Addr) (xk : Nat) (xs : List Int) (w : World) (hW : RawMs w w.heap.size A n) (hbs : 0 ≤ bs ∧ bs < 256) (hdr : 0 ≤ dr ∧ dr < 256) (hX : Seq w w.heap.size XA xs) (hxs : ∀ z ∈ xs, 0 ≤ z ∧ z < 256) :
    Calls Try.prog 9 #[.agg #[.int .u8 bs, .int .u8 dr, .slice A n k], .slice XA xs.length xk] w fun e w' => e = .returned (.bool true) ∧ Below w.heap.size w w' := by
  obtain ⟨g, hg⟩ : ∃ g, w.heap.size = g := ⟨_, rfl⟩
  have V0A : Hid (Blk (w.alloc (.cells #[.int .u8 bs, .int .u8 dr, .slice A n k] 24)) g 24 #[.int .u8 bs, .int .u8 dr, .slice A n k]) := by
    unfold Hid; rw [← hg]; exact Blk.new w _ _
  have V0B : Hid (Below w.heap.size w (w.alloc (.cells #[.int .u8 bs, .int .u8 dr, .slice A n k] 24))) := (Below.refl _ _).alloc (Nat.le_refl _) _
  have HW := Lib.hid hW
  have HX := Lib.hid hX
  have HXS := Lib.hid hxs
  clear hW hX hxs
  go_enter Try.func9, Try.ntmps9
  go_wp2_with fail
  generalize w.alloc (.cells #[.int .u8 bs, .int .u8 dr, .slice A n k] 24) = V0 at *
  refine (sanity6_any _).mono ?_
  rintro e w1 ⟨rfl, hb1⟩
  have A1 := Lib.hid (V0A.out.keep hb1 (Blk.lt V0A.out))
  have B1 : Hid (Below w.heap.size w w1) := below_next V0B.out hb1
  clear hb1 V0A V0B
  have a0 := A1.out.cell 0
  have a1 := A1.out.cell 1
  have a2 := A1.out.cell 2
  simp only [List.getElem?_toArray, List.getElem?_cons_zero, List.getElem?_cons_succ] at a0 a1 a2
  go_wp2_with fail
  have HW1 : RawMs w1 w1.heap.size A n := HW.out.up B1.out
  refine (made_any w1 A n k bs dr HW1 hbs hdr).mono ?_
  rintro e w2 ⟨m, a, rs, v, rfl, hM, hG, hl10, hm12, ha, hb2⟩
  obtain ⟨A2, k2, rfl, hR2, hk2⟩ := (Made.b hM).rules
  have HG := Lib.hid hG
  have R2 := Lib.hid hR2
  have B2 : Hid (Below w.heap.size w w2) := below_next B1.out hb2
  clear hb2 hM hG hR2 a0 a1 a2 HW1 B1 A1 HW
  obtain ⟨q, hq⟩ : ∃ q, w2.heap.size = q := ⟨_, rfl⟩
  go_upto_region 3 with fail
  have BA : Hid (Below w2.heap.size w2 (w2.alloc (.cells #[.int .i64 m, .int .u8 a, .slice A2 rs.length k2] 30))) := below_box _ _ _
  have T3 : Hid (Blk (w2.alloc (.cells #[.int .i64 m, .int .u8 a, .slice A2 rs.length k2] 30)) q 30 #[.int .i64 m, .int .u8 a, .slice A2 rs.length k2]) := by
    unfold Hid; rw [← hq]; exact Blk.new w2 _ _
  have R3 := Lib.hid (R2.out.up BA.out)
  have B3 : Hid (Below w.heap.size w (w2.alloc (.cells #[.int .i64 m, .int .u8 a, .slice A2 rs.length k2] 30))) := below_next B2.out BA.out
  generalize w2.alloc (.cells #[.int .i64 m, .int .u8 a, .slice A2 rs.length k2] 30) = w3 at *
  clear hq BA R2 B2
  have t0 := T3.out.cell 0
  have t1 := T3.out.cell 1
  have t2 := T3.out.cell 2
  simp only [List.getElem?_toArray, List.getElem?_cons_zero, List.getElem?_cons_succ] at t0 t1 t2
  go_wp2_with fail
  refine (walk_any m a A2 rs.length k2 rs w3 rfl R3.out HG.out (by omega) (by omega) ha XA xs.length xk xs rfl (HX.out.up B3.out) HXS.out).mono ?_
  rintro e w4 ⟨hb4, PA, pk, ks, hown, hend⟩
  have T4 := Lib.hid (T3.out.keep hb4 T3.out.lt)
  have R4 := Lib.hid (R3.out.up hb4)
  have B4 : Hid (Below w.heap.size w w4) := below_next B3.out hb4
  have HO := Lib.hid hown
  clear hb4 hown t0 t1 t2 T3 R3 B3 HX HXS
  rcases hend with ⟨rfl, rfl, _⟩ | ⟨rfl, hok, hkl⟩
  · go_wp2_with fail
    go_ret
    exact ⟨rfl, B4.out⟩
  · obtain ⟨rp, rc, _, rn⟩ := ok_run hok
    obtain ⟨u1, u2⟩ := ok_sizes HG.out hok
    have t0 := T4.out.cell 0
    have t1 := T4.out.cell 1
    have t2 := T4.out.cell 2
    simp only [List.getElem?_toArray, List.getElem?_cons_zero, List.getElem?_cons_succ] at t0 t1 t2
    have HOK := Lib.hid hok
    have HRP := Lib.hid rp
    have HRC : Hid ((runT rs ks).c = cellsK rs ks) := rc
    clear hok rp rc rn
    go_wp2_with fail
    refine (rRun_any m a A2 rs.length k2 rs PA ks.length pk ks w4 rfl R4.out HG.out (by omega) (by omega) ha rfl (own_seqN HO.out) (by omega)).mono ?_
    rintro e w5 ⟨CA, ck, rfl, hcs, hb5⟩
    have HPN := Lib.hid (own_seqN HO.out)
    rw [HRP.out, HOK.out]
    have hSB := bytes_strOf (l := prtL rs ks) prt_bd
    obtain ⟨S, hS⟩ : ∃ S, strOf ((prtL rs ks).map fun b : Nat => (b : Int)) = S := ⟨_, rfl⟩
    rw [hS] at hSB ⊢
    have hss : S.size ≤ 16000 := by
      have h1 := bytes_len S
      rw [hSB] at h1
      omega
    have HSB := Lib.hid hSB
    clear hS hSB HRP
    have B5 : Hid (Below w.heap.size w w5) := below_next B4.out hb5
    have hcl : (runT rs ks).c.length ≤ 16000 := by omega
    have T5 := Lib.hid (T4.out.keep hb5 T4.out.lt)
    have R5 := Lib.hid (R4.out.up hb5)
    have P5 := Lib.hid (HPN.out.up hb5)
    clear hcs hb5 t0 t1 t2 T4 R4 B4 HO HPN u1 u2
    rw [HRC.out] at hcl ⊢
    generalize hcle : cellsK rs ks = cl at hcl ⊢
    have HCL := Lib.hid hcle
    clear hcle HRC
    generalize ((runT rs ks).n : Nat) = tn at *
    generalize (runT rs ks).st = ts at *
    obtain ⟨tm, tl, te⟩ := ts
    go_upto_region 7 with fail
    have BA := below_box w5 #[.string S, .slice CA cl.length ck, .int .i64 (tn : Nat), .int .i64 tm, .int .i64 tl, .int .u8 te, .bool true] 49
    have TQ : Hid (Blk (w5.alloc (.cells #[.string S, .slice CA cl.length ck, .int .i64 (tn : Nat), .int .i64 tm, .int .i64 tl, .int .u8 te, .bool true] 49)) w5.heap.size 49 #[.string S, .slice CA cl.length ck, .int .i64 (tn : Nat), .int .i64 tm, .int .i64 tl, .int .u8 te, .bool true]) := Blk.new _ _ _
    have B6 : Hid (Below w.heap.size w (w5.alloc (.cells #[.string S, .slice CA cl.length ck, .int .i64 (tn : Nat), .int .i64 tm, .int .i64 tl, .int .u8 te, .bool true] 49))) := below_next B5.out BA
    have T6 := Lib.hid (T5.out.keep BA T5.out.lt)
    have R6 := Lib.hid (R5.out.up BA)
    have P6 := Lib.hid (P5.out.up BA)
    generalize w5.alloc (.cells #[.string S, .slice CA cl.length ck, .int .i64 (tn : Nat), .int .i64 tm, .int .i64 tl, .int .u8 te, .bool true] 49) = w6 at *
    obtain ⟨d, hd⟩ : ∃ d, w5.heap.size = d := ⟨_, rfl⟩
    rw [hd] at TQ
    simp only [hd]
    clear hd BA B5 T5 R5 P5
    have t0 := T6.out.cell 0
    have t1 := T6.out.cell 1
    have t2 := T6.out.cell 2
    have d0 := TQ.out.cell 0
    simp only [List.getElem?_toArray, List.getElem?_cons_zero, List.getElem?_cons_succ] at t0 t1 t2 d0
    go_wp2_with fail
    refine (write_any m a A2 rs.length k2 rs S w6 rfl R6.out HG.out (by omega) (by omega) ha hk2 (by omega)).mono ?_
    rintro e w7 ⟨CW, cw, PW, pw, cs, k2s, pl, er, rfl, hsq, hsn, hwr, hb7⟩
    obtain ⟨hbest, hce, rfl, rfl⟩ := wr_of_path HG.out R6.out.fit HOK.out HSB.out.symm hwr
    have hbx := below_box w7 #[.slice CW cs.length cw, .slice PW k2s.length pw] 60
    have HZ : Hid (Blk (w7.alloc (.cells #[.slice CW cs.length cw, .slice PW k2s.length pw] 60)) w7.heap.size 60 #[.slice CW cs.length cw, .slice PW k2s.length pw]) := Blk.new _ _ _
    have B8 := Lib.hid (below_next B6.out (below_next hb7 hbx))
    have T8 := Lib.hid (T6.out.keep (below_next hb7 hbx) T6.out.lt)
    have R8 := Lib.hid (R6.out.up (below_next hb7 hbx))
    have P8 := Lib.hid (P6.out.up (below_next hb7 hbx))
    have TQ8 := Lib.hid (TQ.out.keep (below_next hb7 hbx) TQ.out.lt)
    have HWA := Lib.hid (WrAt.up (ck := cw) (pk := pw) ⟨hsq, hsn, rfl, rfl⟩ hbx)
    have HB := Lib.hid hbest
    have HCE := Lib.hid hce
    have HCR : Hid (CostR a rs (bytes S) (cs.length : Int)) := ⟨cs, k2s, S.size, 0, hwr, .inl ⟨rfl, rfl⟩⟩
    have hgd : GdE (edgP rs (bytes S)) (finP a (bytes S)) (0, 0) ks := (gdP_iff HG.out R6.out.fit).2 ⟨HOK.out, HSB.out.symm⟩
    have HLE := Lib.hid (hbest.2 ks hgd)
    have hcsl : cs.length = cstE (cstR rs) k2s := by rw [hce, cellsK_len]
    have hcll : cl.length = cstE (cstR rs) ks := by rw [← HCL.out, cellsK_len]
    have hkk : k2s.length ≤ 16000 := by
      obtain ⟨u, hu, _⟩ := hbest.1
      have h1 := len_le_cst HG.out k2s _ _ hu
      have h2 := HLE.out.1
      omega
    have hck : cs.length ≤ cl.length := by have := HLE.out.1; omega
    have HEQ : Hid (cs.length = cl.length → lessL ks k2s = false) := fun e => HLE.out.2 (by omega)
    have HWT : Hid (wrsB a rs S cs k2s = true) := by
      unfold Hid
      rw [hce]
      exact wrs_true HG.out R6.out.fit hbest.1
    clear hsq hsn hwr hb7 hbx t0 t1 t2 d0 TQ T6 R6 P6 B6 hbest hce hgd HLE hcsl hcll HCL HB HCE HSB HOK
    go_upto_region 8 with fail
    generalize w7.alloc (.cells #[.slice CW cs.length cw, .slice PW k2s.length pw] 60) = V at *
    obtain ⟨z, hz⟩ : ∃ z, w7.heap.size = z := ⟨_, rfl⟩
    rw [hz] at HZ
    simp only [hz]
    clear hz
    have t0 := T8.out.cell 0
    have t1 := T8.out.cell 1
    have t2 := T8.out.cell 2
    have d0 := TQ8.out.cell 0
    have z0 := HZ.out.cell 0
    have z1 := HZ.out.cell 1
    simp only [List.getElem?_toArray, List.getElem?_cons_zero, List.getElem?_cons_succ] at t0 t1 t2 d0 z0 z1
    have HTL := Lib.hid T8.out.lt
    have HDL := Lib.hid TQ8.out.lt
    have HZL := Lib.hid HZ.out.lt
    have HC1 : Hid (∀ W, Below V.heap.size V W → Calls Try.prog 35 #[.agg #[.int .i64 m, .int .u8 a, .slice A2 rs.length k2], .agg #[.slice CW cs.length cw, .slice PW k2s.length pw], .string S] W fun e w' => e = .returned (.bool true) ∧ Below W.heap.size W w') := fun W hb => by
      have h1 := rWrites_any m a A2 rs.length k2 rs S CW PW cs.length cw k2s.length pw cs k2s W rfl (R8.out.up hb) HG.out (by omega) (by omega) ha rfl rfl (HWA.out.up hb).c (HWA.out.up hb).p (by omega)
      rw [HWT.out] at h1
      exact h1
    have HC2 : Hid (∀ W, Below V.heap.size V W → Calls Try.prog 36 #[.agg #[.int .i64 m, .int .u8 a, .slice A2 rs.length k2], .agg #[.slice CW cs.length cw, .slice PW k2s.length pw], .string S] W fun e w' => e = .returned (.bool true) ∧ Below W.heap.size W w') := fun W hb => by
      have h1 := writes_any m a A2 rs.length k2 rs S CW PW cs.length cw k2s.length pw cs k2s W rfl (R8.out.up hb) HG.out (by omega) (by omega) ha rfl rfl (HWA.out.up hb).c (HWA.out.up hb).p (by omega)
      rw [HWT.out] at h1
      exact h1
    have HC3 : Hid (∀ W, Below V.heap.size V W → Calls Try.prog 33 #[.agg #[.int .i64 m, .int .u8 a, .slice A2 rs.length k2], .string S] W fun e w' => e = .returned (.int .i64 (cs.length : Int)) ∧ Below W.heap.size W w') := fun W hb =>
      cost6_any m a A2 rs.length k2 rs S _ W ⟨R8.out.up hb, HG.out, rfl, by omega, by omega, ha, hk2⟩ (by omega) HCR.out
    refine wp_region_head 34 0 (by kernel_rfl) (fun y => (Value.agg #[Value.int IntKind.u8 bs, Value.int IntKind.u8 dr, Value.slice A n k]) :: (Value.slice XA xs.length xk) :: (Value.pointer (some ⟨g, 0, none⟩)) :: undef :: (Value.bool false) :: (Value.bool true) :: (Value.pointer (some ⟨q, 0, none⟩)) :: (Value.slice PA ks.length pk) :: (Value.bool true) :: (Value.pointer (some ⟨d, 0, none⟩)) :: (Value.pointer (some ⟨z, 0, none⟩)) :: (Value.int IntKind.i64 ↑S.size) :: (Value.int IntKind.i64 0) :: (Value.bool true) :: (Value.agg #[Value.int IntKind.u8 bs, Value.int IntKind.u8 dr, Value.slice A n k]) :: (Value.agg #[Value.int IntKind.i64 m, Value.int IntKind.u8 a, Value.slice A2 rs.length k2]) :: (Value.tuple #[Value.slice PA ks.length pk, Value.bool true]) :: (Value.agg #[Value.int IntKind.i64 m, Value.int IntKind.u8 a, Value.slice A2 rs.length k2]) :: (Value.slice XA xs.length xk) :: (Value.tuple #[Value.slice PA ks.length pk, Value.bool true]) :: (Value.slice PA ks.length pk) :: (Value.bool true) :: (Value.bool true) :: (Value.bool false) :: undef :: (Value.agg #[Value.int IntKind.i64 m, Value.int IntKind.u8 a, Value.slice A2 rs.length k2]) :: (Value.slice PA ks.length pk) :: (Value.agg #[Value.string S, Value.slice CA cl.length ck, Value.int IntKind.i64 ↑tn, Value.int IntKind.i64 tm, Value.int IntKind.i64 tl, Value.int IntKind.u8 te, Value.bool true]) :: (Value.tuple #[Value.agg #[Value.slice CW cs.length cw, Value.slice PW k2s.length pw], Value.int IntKind.i64 ↑S.size, Value.int IntKind.i64 0]) :: (Value.agg #[Value.int IntKind.i64 m, Value.int IntKind.u8 a, Value.slice A2 rs.length k2]) :: (Value.pointer (some ⟨d, 0, none⟩)) :: (Value.string S) :: (Value.tuple #[Value.agg #[Value.slice CW cs.length cw, Value.slice PW k2s.length pw], Value.int IntKind.i64 ↑S.size, Value.int IntKind.i64 0]) :: (Value.agg #[Value.slice CW cs.length cw, Value.slice PW k2s.length pw]) :: (Value.int IntKind.i64 ↑S.size) :: (Value.int IntKind.i64 0) :: y 0 :: y 1 :: y 2 :: y 3 :: y 4 :: y 5 :: y 6 :: y 7 :: y 8 :: y 9 :: y 10 :: y 11 :: y 12 :: y 13 :: y 14 :: y 15 :: y 16 :: y 17 :: y 18 :: y 19 :: y 20 :: y 21 :: y 22 :: y 23 :: y 24 :: y 25 :: y 26 :: y 27 :: y 28 :: y 29 :: y 30 :: y 31 :: y 32 :: y 33 :: undef :: undef :: undef :: undef :: undef :: undef :: undef :: undef :: undef :: undef :: undef :: undef :: undef :: undef :: undef :: undef :: undef :: undef :: undef :: undef :: undef :: undef :: undef :: undef :: undef :: undef :: undef :: [])
      (fun _ w' => Below V.heap.size V w') (phiP [pv (.int .i64 0), pv (.bool false), pv (.bool false), pv (.int .i64 S.size), pv (.pointer (some ⟨d, 0, none⟩)), pv (.string S), pv (.int .i64 S.size), pv (.bool false), pv (.bool false), pv (.bool false), pv (.agg #[.int .i64 m, .int .u8 a, .slice A2 rs.length k2]), pv (.agg #[.slice CW cs.length cw, .slice PW k2s.length pw]), pv (.pointer (some ⟨d, 0, none⟩)), pv (.string S), pv (.bool true), pv (.bool false), pv (.bool false), pv (.bool false), pv (.agg #[.int .i64 m, .int .u8 a, .slice A2 rs.length k2]), pv (.agg #[.slice CW cs.length cw, .slice PW k2s.length pw]), pv (.pointer (some ⟨d, 0, none⟩)), pv (.string S), pv (.bool true), pv (.bool false), pv (.bool false), pv (.bool false), pv (.agg #[.int .i64 m, .int .u8 a, .slice A2 rs.length k2]), pv (.pointer (some ⟨d, 0, none⟩)), pv (.string S), pv (.int .i64 cs.length), pv (.pointer (some ⟨z, 0, none⟩)), pv (.slice CW cs.length cw), pv (.int .i64 cs.length), pv (.bool false)]) (fun i => match i with | 0 => undef | 1 => undef | 2 => undef | 3 => undef | 4 => undef | 5 => undef | 6 => undef | 7 => undef | 8 => undef | 9 => undef | 10 => undef | 11 => undef | 12 => undef | 13 => undef | 14 => undef | 15 => undef | 16 => undef | 17 => undef | 18 => undef | 19 => undef | 20 => undef | 21 => undef | 22 => undef | 23 => undef | 24 => undef | 25 => undef | 26 => undef | 27 => undef | 28 => undef | 29 => undef | 30 => undef | 31 => undef | 32 => undef | 33 => undef | _ => undef)
      (by kernel_rfl) (by kernel_rfl) (by kernel_rfl) (by kernel_rfl) (fun i v wa wb h hb => phiP_keep (stay_cons (pv_st) (stay_cons (pv_st) (stay_cons (pv_st) (stay_cons (pv_st) (stay_cons (pv_st) (stay_cons (pv_st) (stay_cons (pv_st) (stay_cons (pv_st) (stay_cons (pv_st) (stay_cons (pv_st) (stay_cons (pv_st) (stay_cons (pv_st) (stay_cons (pv_st) (stay_cons (pv_st) (stay_cons (pv_st) (stay_cons (pv_st) (stay_cons (pv_st) (stay_cons (pv_st) (stay_cons (pv_st) (stay_cons (pv_st) (stay_cons (pv_st) (stay_cons (pv_st) (stay_cons (pv_st) (stay_cons (pv_st) (stay_cons (pv_st) (stay_cons (pv_st) (stay_cons (pv_st) (stay_cons (pv_st) (stay_cons (pv_st) (stay_cons (pv_st) (stay_cons (pv_st) (stay_cons (pv_st) (stay_cons (pv_st) (stay_cons (pv_st) stay_nil)))))))))))))))))))))))))))))))))) h hb) (Below.refl _ _).drew [0, 1, 2, 3, 4, 5, 6, 7, 8, 9, 10, 11, 12, 13, 14, 15, 16, 17, 18, 19, 20, 21, 22, 23, 24, 25, 26, 27, 28, 29, 30, 31, 32, 33] (by kernel_rfl) ?_ ?_
    · refine allCons ?_ (allCons ?_ (allCons ?_ (allCons ?_ (allCons ?_ (allCons ?_ (allCons ?_ (allCons ?_ (allCons ?_ (allCons ?_ (allCons ?_ (allCons ?_ (allCons ?_ (allCons ?_ (allCons ?_ (allCons ?_ (allCons ?_ (allCons ?_ (allCons ?_ (allCons ?_ (allCons ?_ (allCons ?_ (allCons ?_ (allCons ?_ (allCons ?_ (allCons ?_ (allCons ?_ (allCons ?_ (allCons ?_ (allCons ?_ (allCons ?_ (allCons ?_ (allCons ?_ (allCons ?_ (allNil))))))))))))))))))))))))))))))))))
      all_goals intro y w10 K hS hd hK
      · refine wpOp_step rfl (fun K2 hK2 => ?_)
        go_simp
        exact hK2 _ _ (hK _ _ hS rfl (Below.refl _ _))
      · have e0 : y 0 = _ := hd 0 rfl
        obtain ⟨y, rfl⟩ := upd_at (y := y) (i := 0) e0
        dsimp [upd]
        refine wpOp_step rfl (fun K2 hK2 => ?_)
        go_simp
        exact hK2 _ _ (hK _ _ hS rfl (Below.refl _ _))
      · have e1 : y 1 = _ := hd 1 rfl
        obtain ⟨y, rfl⟩ := upd_at (y := y) (i := 1) e1
        dsimp [upd]
        refine wpOp_step rfl (fun K2 hK2 => ?_)
        go_simp
        exact hK2 _ _ (hK _ _ hS rfl (Below.refl _ _))
      · have e2 : y 2 = _ := hd 2 rfl
        obtain ⟨y, rfl⟩ := upd_at (y := y) (i := 2) e2
        dsimp [upd]
        refine wpOp_step rfl (fun K2 hK2 => ?_)
        go_simp
        exact hK2 _ _ (hK _ _ hS rfl (Below.refl _ _))
      · have e2 : y 2 = _ := hd 2 rfl
        obtain ⟨y, rfl⟩ := upd_at (y := y) (i := 2) e2
        dsimp [upd]
        refine wpOp_step rfl (fun K2 hK2 => ?_)
        go_simp
        exact hK2 _ _ (hK _ _ hS rfl (Below.refl _ _))
      · have e2 : y 2 = _ := hd 2 rfl
        have e4 : y 4 = _ := hd 4 rfl
        obtain ⟨y, rfl⟩ := upd_at (y := y) (i := 2) e2
        obtain ⟨y, rfl⟩ := upd_at (y := y) (i := 4) e4
        dsimp [upd]
        have qd0 := (hS.cell (p := ⟨d, 0, none⟩) HDL.out).trans d0
        refine wpOp_step rfl (fun K2 hK2 => ?_)
        go_simp
        exact hK2 _ _ (hK _ _ hS rfl (Below.refl _ _))
      · have e2 : y 2 = _ := hd 2 rfl
        have e5 : y 5 = _ := hd 5 rfl
        obtain ⟨y, rfl⟩ := upd_at (y := y) (i := 2) e2
        obtain ⟨y, rfl⟩ := upd_at (y := y) (i := 5) e5
        dsimp [upd]
        refine wpOp_step rfl (fun K2 hK2 => ?_)
        go_simp
        exact hK2 _ _ (hK _ _ hS rfl (Below.refl _ _))
      · have e2 : y 2 = _ := hd 2 rfl
        have e3 : y 3 = _ := hd 3 rfl
        have e6 : y 6 = _ := hd 6 rfl
        obtain ⟨y, rfl⟩ := upd_at (y := y) (i := 2) e2
        obtain ⟨y, rfl⟩ := upd_at (y := y) (i := 3) e3
        obtain ⟨y, rfl⟩ := upd_at (y := y) (i := 6) e6
        dsimp [upd]
        refine wpOp_step rfl (fun K2 hK2 => ?_)
        go_simp
        exact hK2 _ _ (hK _ _ hS rfl (Below.refl _ _))
      · have e2 : y 2 = _ := hd 2 rfl
        have e7 : y 7 = _ := hd 7 rfl
        obtain ⟨y, rfl⟩ := upd_at (y := y) (i := 2) e2
        obtain ⟨y, rfl⟩ := upd_at (y := y) (i := 7) e7
        dsimp [upd]
        refine wpOp_step rfl (fun K2 hK2 => ?_)
        go_simp
        exact hK2 _ _ (hK _ _ hS rfl (Below.refl _ _))
      · have e8 : y 8 = _ := hd 8 rfl
        obtain ⟨y, rfl⟩ := upd_at (y := y) (i := 8) e8
        dsimp [upd]
        refine wpOp_step rfl (fun K2 hK2 => ?_)
        go_simp
        exact hK2 _ _ (hK _ _ hS rfl (Below.refl _ _))
      · have e9 : y 9 = _ := hd 9 rfl
        obtain ⟨y, rfl⟩ := upd_at (y := y) (i := 9) e9
        dsimp [upd]
        have qq0 := (hS.cell (p := ⟨q, 0, none⟩) HTL.out).trans t0
        have qq1 := (hS.cell (p := ⟨q, 1, none⟩) HTL.out).trans t1
        have qq2 := (hS.cell (p := ⟨q, 2, none⟩) HTL.out).trans t2
        refine wpOp_step rfl (fun K2 hK2 => ?_)
        go_simp
        exact hK2 _ _ (hK _ _ hS rfl (Below.refl _ _))
      · have e9 : y 9 = _ := hd 9 rfl
        obtain ⟨y, rfl⟩ := upd_at (y := y) (i := 9) e9
        dsimp [upd]
        have qz0 := (hS.cell (p := ⟨z, 0, none⟩) HZL.out).trans z0
        have qz1 := (hS.cell (p := ⟨z, 1, none⟩) HZL.out).trans z1
        refine wpOp_step rfl (fun K2 hK2 => ?_)
        go_simp
        exact hK2 _ _ (hK _ _ hS rfl (Below.refl _ _))
      · have e9 : y 9 = _ := hd 9 rfl
        obtain ⟨y, rfl⟩ := upd_at (y := y) (i := 9) e9
        dsimp [upd]
        refine wpOp_step rfl (fun K2 hK2 => ?_)
        go_simp
        exact hK2 _ _ (hK _ _ hS rfl (Below.refl _ _))
      · have e9 : y 9 = _ := hd 9 rfl
        have e12 : y 12 = _ := hd 12 rfl
        obtain ⟨y, rfl⟩ := upd_at (y := y) (i := 9) e9
        obtain ⟨y, rfl⟩ := upd_at (y := y) (i := 12) e12
        dsimp [upd]
        have qd0 := (hS.cell (p := ⟨d, 0, none⟩) HDL.out).trans d0
        refine wpOp_step rfl (fun K2 hK2 => ?_)
        go_simp
        exact hK2 _ _ (hK _ _ hS rfl (Below.refl _ _))
      · have e9 : y 9 = _ := hd 9 rfl
        have e10 : y 10 = _ := hd 10 rfl
        have e11 : y 11 = _ := hd 11 rfl
        have e13 : y 13 = _ := hd 13 rfl
        obtain ⟨y, rfl⟩ := upd_at (y := y) (i := 9) e9
        obtain ⟨y, rfl⟩ := upd_at (y := y) (i := 10) e10
        obtain ⟨y, rfl⟩ := upd_at (y := y) (i := 11) e11
        obtain ⟨y, rfl⟩ := upd_at (y := y) (i := 13) e13
        dsimp [upd]
        refine wpOp_step rfl (fun K2 hK2 => ?_)
        go_simp
        refine (HC1.out w10 hS).mono ?_
        rintro e' w2 ⟨rfl, hb2⟩
        exact hK2 _ _ (hK _ _ (below_next hS hb2) rfl hb2)
      · have e9 : y 9 = _ := hd 9 rfl
        have e14 : y 14 = _ := hd 14 rfl
        obtain ⟨y, rfl⟩ := upd_at (y := y) (i := 9) e9
        obtain ⟨y, rfl⟩ := upd_at (y := y) (i := 14) e14
        dsimp [upd]
        refine wpOp_step rfl (fun K2 hK2 => ?_)
        go_simp
        exact hK2 _ _ (hK _ _ hS rfl (Below.refl _ _))
      · have e9 : y 9 = _ := hd 9 rfl
        have e15 : y 15 = _ := hd 15 rfl
        obtain ⟨y, rfl⟩ := upd_at (y := y) (i := 9) e9
        obtain ⟨y, rfl⟩ := upd_at (y := y) (i := 15) e15
        dsimp [upd]
        refine wpOp_step rfl (fun K2 hK2 => ?_)
        go_simp
        exact hK2 _ _ (hK _ _ hS rfl (Below.refl _ _))
      · have e16 : y 16 = _ := hd 16 rfl
        obtain ⟨y, rfl⟩ := upd_at (y := y) (i := 16) e16
        dsimp [upd]
        refine wpOp_step rfl (fun K2 hK2 => ?_)
        go_simp
        exact hK2 _ _ (hK _ _ hS rfl (Below.refl _ _))
      · have e17 : y 17 = _ := hd 17 rfl
        obtain ⟨y, rfl⟩ := upd_at (y := y) (i := 17) e17
        dsimp [upd]
        have qq0 := (hS.cell (p := ⟨q, 0, none⟩) HTL.out).trans t0
        have qq1 := (hS.cell (p := ⟨q, 1, none⟩) HTL.out).trans t1
        have qq2 := (hS.cell (p := ⟨q, 2, none⟩) HTL.out).trans t2
        refine wpOp_step rfl (fun K2 hK2 => ?_)
        go_simp
        exact hK2 _ _ (hK _ _ hS rfl (Below.refl _ _))
      · have e17 : y 17 = _ := hd 17 rfl
        obtain ⟨y, rfl⟩ := upd_at (y := y) (i := 17) e17
        dsimp [upd]
        have qz0 := (hS.cell (p := ⟨z, 0, none⟩) HZL.out).trans z0
        have qz1 := (hS.cell (p := ⟨z, 1, none⟩) HZL.out).trans z1
        refine wpOp_step rfl (fun K2 hK2 => ?_)
        go_simp
        exact hK2 _ _ (hK _ _ hS rfl (Below.refl _ _))
      · have e17 : y 17 = _ := hd 17 rfl
        obtain ⟨y, rfl⟩ := upd_at (y := y) (i := 17) e17
        dsimp [upd]
        refine wpOp_step rfl (fun K2 hK2 => ?_)
        go_simp
        exact hK2 _ _ (hK _ _ hS rfl (Below.refl _ _))
      · have e17 : y 17 = _ := hd 17 rfl
        have e20 : y 20 = _ := hd 20 rfl
        obtain ⟨y, rfl⟩ := upd_at (y := y) (i := 17) e17
        obtain ⟨y, rfl⟩ := upd_at (y := y) (i := 20) e20
        dsimp [upd]
        have qd0 := (hS.cell (p := ⟨d, 0, none⟩) HDL.out).trans d0
        refine wpOp_step rfl (fun K2 hK2 => ?_)
        go_simp
        exact hK2 _ _ (hK _ _ hS rfl (Below.refl _ _))
      · have e17 : y 17 = _ := hd 17 rfl
        have e18 : y 18 = _ := hd 18 rfl
        have e19 : y 19 = _ := hd 19 rfl
        have e21 : y 21 = _ := hd 21 rfl
        obtain ⟨y, rfl⟩ := upd_at (y := y) (i := 17) e17
        obtain ⟨y, rfl⟩ := upd_at (y := y) (i := 18) e18
        obtain ⟨y, rfl⟩ := upd_at (y := y) (i := 19) e19
        obtain ⟨y, rfl⟩ := upd_at (y := y) (i := 21) e21
        dsimp [upd]
        refine wpOp_step rfl (fun K2 hK2 => ?_)
        go_simp
        refine (HC2.out w10 hS).mono ?_
        rintro e' w2 ⟨rfl, hb2⟩
        exact hK2 _ _ (hK _ _ (below_next hS hb2) rfl hb2)
      · have e17 : y 17 = _ := hd 17 rfl
        have e22 : y 22 = _ := hd 22 rfl
        obtain ⟨y, rfl⟩ := upd_at (y := y) (i := 17) e17
        obtain ⟨y, rfl⟩ := upd_at (y := y) (i := 22) e22
        dsimp [upd]
        refine wpOp_step rfl (fun K2 hK2 => ?_)
        go_simp
        exact hK2 _ _ (hK _ _ hS rfl (Below.refl _ _))
      · have e17 : y 17 = _ := hd 17 rfl
        have e23 : y 23 = _ := hd 23 rfl
        obtain ⟨y, rfl⟩ := upd_at (y := y) (i := 17) e17
        obtain ⟨y, rfl⟩ := upd_at (y := y) (i := 23) e23
        dsimp [upd]
        refine wpOp_step rfl (fun K2 hK2 => ?_)
        go_simp
        exact hK2 _ _ (hK _ _ hS rfl (Below.refl _ _))
      · have e24 : y 24 = _ := hd 24 rfl
        obtain ⟨y, rfl⟩ := upd_at (y := y) (i := 24) e24
        dsimp [upd]
        refine wpOp_step rfl (fun K2 hK2 => ?_)
        go_simp
        exact hK2 _ _ (hK _ _ hS rfl (Below.refl _ _))
      · have e25 : y 25 = _ := hd 25 rfl
        obtain ⟨y, rfl⟩ := upd_at (y := y) (i := 25) e25
        dsimp [upd]
        have qq0 := (hS.cell (p := ⟨q, 0, none⟩) HTL.out).trans t0
        have qq1 := (hS.cell (p := ⟨q, 1, none⟩) HTL.out).trans t1
        have qq2 := (hS.cell (p := ⟨q, 2, none⟩) HTL.out).trans t2
        refine wpOp_step rfl (fun K2 hK2 => ?_)
        go_simp
        exact hK2 _ _ (hK _ _ hS rfl (Below.refl _ _))
      · have e25 : y 25 = _ := hd 25 rfl
        obtain ⟨y, rfl⟩ := upd_at (y := y) (i := 25) e25
        dsimp [upd]
        refine wpOp_step rfl (fun K2 hK2 => ?_)
        go_simp
        exact hK2 _ _ (hK _ _ hS rfl (Below.refl _ _))
      · have e25 : y 25 = _ := hd 25 rfl
        have e27 : y 27 = _ := hd 27 rfl
        obtain ⟨y, rfl⟩ := upd_at (y := y) (i := 25) e25
        obtain ⟨y, rfl⟩ := upd_at (y := y) (i := 27) e27
        dsimp [upd]
        have qd0 := (hS.cell (p := ⟨d, 0, none⟩) HDL.out).trans d0
        refine wpOp_step rfl (fun K2 hK2 => ?_)
        go_simp
        exact hK2 _ _ (hK _ _ hS rfl (Below.refl _ _))
      · have e25 : y 25 = _ := hd 25 rfl
        have e26 : y 26 = _ := hd 26 rfl
        have e28 : y 28 = _ := hd 28 rfl
        obtain ⟨y, rfl⟩ := upd_at (y := y) (i := 25) e25
        obtain ⟨y, rfl⟩ := upd_at (y := y) (i := 26) e26
        obtain ⟨y, rfl⟩ := upd_at (y := y) (i := 28) e28
        dsimp [upd]
        refine wpOp_step rfl (fun K2 hK2 => ?_)
        go_simp
        refine (HC3.out w10 hS).mono ?_
        rintro e' w2 ⟨rfl, hb2⟩
        exact hK2 _ _ (hK _ _ (below_next hS hb2) rfl hb2)
      · have e25 : y 25 = _ := hd 25 rfl
        obtain ⟨y, rfl⟩ := upd_at (y := y) (i := 25) e25
        dsimp [upd]
        refine wpOp_step rfl (fun K2 hK2 => ?_)
        go_simp
        exact hK2 _ _ (hK _ _ hS rfl (Below.refl _ _))
      · have e25 : y 25 = _ := hd 25 rfl
        have e30 : y 30 = _ := hd 30 rfl
        obtain ⟨y, rfl⟩ := upd_at (y := y) (i := 25) e25
        obtain ⟨y, rfl⟩ := upd_at (y := y) (i := 30) e30
        dsimp [upd]
        have qz0 := (hS.cell (p := ⟨z, 0, none⟩) HZL.out).trans z0
        refine wpOp_step rfl (fun K2 hK2 => ?_)
        go_simp
        exact hK2 _ _ (hK _ _ hS rfl (Below.refl _ _))
      · have e25 : y 25 = _ := hd 25 rfl
        have e31 : y 31 = _ := hd 31 rfl
        obtain ⟨y, rfl⟩ := upd_at (y := y) (i := 25) e25
        obtain ⟨y, rfl⟩ := upd_at (y := y) (i := 31) e31
        dsimp [upd]
        refine wpOp_step rfl (fun K2 hK2 => ?_)
        go_simp
        exact hK2 _ _ (hK _ _ hS rfl (Below.refl _ _))
      · have e25 : y 25 = _ := hd 25 rfl
        have e29 : y 29 = _ := hd 29 rfl
        have e32 : y 32 = _ := hd 32 rfl
        obtain ⟨y, rfl⟩ := upd_at (y := y) (i := 25) e25
        obtain ⟨y, rfl⟩ := upd_at (y := y) (i := 29) e29
        obtain ⟨y, rfl⟩ := upd_at (y := y) (i := 32) e32
        dsimp [upd]
        refine wpOp_step rfl (fun K2 hK2 => ?_)
        go_simp
        exact hK2 _ _ (hK _ _ hS rfl (Below.refl _ _))
    · intro y w10 f hS hd
      have e25 : y 25 = _ := hd 25 (by decide)
      have e33 : y 33 = _ := hd 33 (by decide)
      clear hd
      obtain ⟨y, rfl⟩ := upd_at (y := y) (i := 25) e25
      obtain ⟨y, rfl⟩ := upd_at (y := y) (i := 33) e33
      dsimp [upd]
      refine wpAny_one (i := 34) (by kernel_rfl) ?_
      refine wpOp_step rfl (fun K2 hK2 => ?_)
      go_simp
      refine hK2 _ _ ?_
      clear hK2 K2 e25 e33
      refine wpAny_done (by kernel_rfl) ?_ _
      have HV10 := Lib.hid (below_next B8.out hS)
      have HZ10 := Lib.hid (HZ.out.keep hS HZ.out.lt)
      have HD10 := Lib.hid (TQ8.out.keep hS TQ8.out.lt)
      have HP10 := Lib.hid (P8.out.up hS)
      have HW10 := Lib.hid (HWA.out.up hS)
      clear t0 t1 t2 d0 z0 z1 hS HC1 HC2 HC3 B8 HZ TQ8 P8 HWA T8 R8 HTL HDL HZL
      have d1 := HD10.out.cell 1
      have z0 := HZ10.out.cell 0
      have z1 := HZ10.out.cell 1
      simp only [List.getElem?_toArray, List.getElem?_cons_zero, List.getElem?_cons_succ] at d1 z0 z1
      by_cases hlt : cs.length < cl.length
      · have hl1 : (cs.length : Int) < (cl.length : Int) := by omega
        have hl2 : (cs.length : Int) ≤ (cl.length : Int) := by omega
        have hl3 : cs.length ≤ cl.length := hck
        go_wp2_with fail
        go_ret
        exact ⟨rfl, HV10.out⟩
      · have hl1 : ¬ (cs.length : Int) < (cl.length : Int) := by omega
        have hl2 : (cs.length : Int) ≤ (cl.length : Int) := by omega
        have HLF := Lib.hid (HEQ.out (by omega))
        go_wp2_with fail
        refine (less_any PA PW ks.length k2s.length pk pw ks k2s w10 rfl rfl HP10.out HW10.out.p (by omega)).mono ?_
        rintro e w11 ⟨rfl, hb11⟩
        rw [HLF.out]
        have HV11 := Lib.hid (below_next HV10.out hb11)
        clear hb11 d1 z0 z1 HV10 HZ10 HD10 HP10 HW10
        go_wp2_with fail
        go_ret
        exact ⟨rfl, HV11.out⟩
end Go.Proofs.Ytghjpblfneldcaa

/-! sixdotlaw06.TranslateFewest: the row. -/
namespace Go.Proofs.Ytghjpblfneldcaa
open Go.ChangeShapes Go.WideShapes Go.ChangeAt Go.WideMaps Go.WideElems Go.RowKit

theorem own : ownKnob Try.prog.godebug = none := by kernel_rfl
theorem laidOut : laidOutB Try.prog = true := by kernel_rfl
set_option maxRecDepth 100000 in
theorem lifted (os : Os) (started : os.Started) (H : Type) (enc : TypeId × Value → H) :
    ReturnsInHanded {} Try.checked os 9 .any (Rows.translateFewestSpec.pre6 enc Try.prog Try.f9 Rows.translateFewestRow.domain false) (Rows.translateFewestSpec.post enc Try.prog Try.f9 false true false false) := by
  refine returnsInHanded_of_change (C := Try.checked) own started (by kernel_rfl) Try.func9
    (ChangeSpec.witness6 (enc := enc) (C := Try.checked) false ⟨#[], #[.agg #[.int .u8 0, .int .u8 0, .slice none 0 0], .slice none 0 0], []⟩ 8 (by kernel_rfl) (by kernel_rfl) (by kernel_rfl) (by kernel_rfl)) ?_
  intro W base args ds gs before hval0 hW hcnd _
  have hval : ∀ (j : Nat) t v, Try.f9.params[j]? = some t → args[j]? = some v → Value.okWide Try.prog W .any base t v := hval0
  have hW' := hW
  obtain ⟨p, q, hA0, hV, rfl, hfz, hnd⟩ := hW
  have hA : DataW.TrodAll enc Try.prog W 0 (fun _ => true) true Try.f9.params.toList args.toList ds p := hA0
  rw [Try.params9] at hA hval
  obtain ⟨v0, vs0, d0, ds0, p0, q0, hargs, rfl, rfl, h0, r0⟩ := trodAll_cons hA
  obtain ⟨v1, vs1, d1, ds1, p1, q1, rfl, rfl, rfl, h1, r1⟩ := trodAll_cons r0
  obtain ⟨rfl, rfl, rfl⟩ := trodAll_nil r1
  obtain rfl : args = #[v0, v1] := by cases args; simp_all
  obtain ⟨rfl, rfl⟩ := trodVars_none hV
  have k0 := h0
  have lt0 : ∀ x ∈ p0, x.block < W.heap.size := by obtain ⟨m, hm⟩ := k0; exact DataW.trod_lt m _ _ _ hm
  have k1 := h1
  have lt1 : ∀ x ∈ p1, x.block < W.heap.size := by obtain ⟨m, hm⟩ := k1; exact DataW.trod_lt m _ _ _ hm
  obtain ⟨bs, dr, A, n, k, rfl, hr0, hbs, hdr⟩ := open_raw (hval 0 24 v0 rfl rfl) h0
  obtain ⟨XA1, xk1, xs1, rfl, hx1, hz1⟩ := open_bytesL (hval 1 25 v1 rfl rfl) h1
  clear hA0 hval0
  refine (walk_fewest bs dr A n k XA1 xk1 xs1 W hr0 hbs hdr hx1 hz1).mono fun e W' ⟨he, bel⟩ => ?_
  subst he
  exact ⟨_, rfl, _, _, _, [], _, [], hW', trodAll_mk1 (shut_bool Try.underlying4 _), (trodAll_cons_mk (Below.trod laidOut (by kernel_rfl) (of_decide_eq_true (by kernel_rfl)) k0 bel lt0) (trodAll_cons_mk (Below.trod laidOut (by kernel_rfl) (of_decide_eq_true (by kernel_rfl)) k1 bel lt1) trodAll_mk0)), rfl, bel.frame _, fun h => by cases h⟩

theorem over : Rows.translateFewestRow.holds Try.pinned (OpenSpec.ofChange Rows.translateFewestSpec) :=
  OpenClaim.holds_of_wide 9 Try.f9 rfl rfl rfl rfl rfl rfl rfl ⟨rfl, rfl, rfl, rfl, rfl⟩ rfl rfl rfl rfl rfl (by kernel_rfl) Try.func9 (by kernel_rfl)
    (of_decide_eq_true (by kernel_rfl)) (by unfold Func.isWrapper; first | (rw [if_pos (by decide +kernel)]; kernel_rfl) | (rw [if_neg (by decide +kernel)]; exact ⟨rfl, rfl⟩))
    (fun os started H enc _ => lifted os started H enc)

theorem proved : Rows.TranslateFewestSaid := over
end Go.Proofs.Ytghjpblfneldcaa
