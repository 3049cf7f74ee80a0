/- Merged by program: Lf1a Lr1a Lr1 -/
import Derived.Test.YtpkdlljefkbmpaaT7
import Derived.Test.YtpkdlljefkbmpaaQ20
import Derived.Test.YtpkdlljefkbmpaaQ15
import Derived.Test.YtpkdlljefkbmpaaT12
import Derived.Test.YtpkdlljefkbmpaaT9
import Derived.Test.YtpkdlljefkbmpaaQ22
import Derived.ProofKit
import Derived.OpenShut

/-! law06.TranslateFewest. -/
namespace Go.Proofs.Ytpkdlljefkbmpaa
open Go.RowKit Go.Maps
theorem bytes_inj {a b : ByteArray} (h : bytes a = bytes b) : a.toList = b.toList := by
 rw [toList_bytes, toList_bytes] at h
 exact (List.map_inj_right (fun x y e => UInt8.toNat_inj.1 e)).1 h
theorem wrs_true {m a : Int} {rs : List Rule} (hG : GoodL m a rs) (hf : ∀ x ∈ rs, x.fits) {S : ByteArray} {ks : List Int} (h : GdE (edgP rs (bytes S)) (finP a (bytes S)) (0, 0) ks) : wrsB a rs S (cellsK rs ks) ks = true := by
 obtain ⟨h1, h2⟩ := (gdP_iff hG hf).1 h
 obtain ⟨r1, r2, _⟩ := ok_run h1
 unfold wrsB
 have e : (strOf (runT rs ks).p).toList = S.toList := bytes_inj (by rw [r1, bytes_strOf prt_bd, h2])
 rw [h1, e, r2]
 simp [eqB, cellsK]
theorem wr_of_path {m a : Int} {rs : List Rule} (hG : GoodL m a rs) (hf : ∀ x ∈ rs, x.fits) {S : ByteArray} {ks cs k2s : List Int} {pl : Nat} {er : Int} (hok : runOk a rs ks = true) (hp : prtL rs ks = bytes S) (h : WrR a rs (bytes S) cs k2s pl er) : BestE (edgP rs (bytes S)) (cstR rs) (finP a (bytes S)) (0, 0) k2s ∧ cs = cellsK rs k2s ∧ pl = S.size ∧ er = 0 := by
 have hg : GdE (edgP rs (bytes S)) (finP a (bytes S)) (0, 0) ks := (gdP_iff hG hf).2 ⟨hok, hp⟩
 rcases h with ⟨t, _⟩ | ⟨_, ⟨h1, h2, h3, h4⟩ | ⟨h1, _⟩⟩
 ·
  have h5 := (ok_blanks hG hok).2.1
  rw [hp, t] at h5
  cases h5
 ·
  exact ⟨h1, h2, by rw [h3, bytes_len], h4⟩
 ·
  exact absurd hg (h1 ks)
end Go.Proofs.Ytpkdlljefkbmpaa

/-! law06.TranslateRefuses. -/
namespace Go.Proofs.Ytpkdlljefkbmpaa
open Go.RowKit Go.Maps
theorem conv_seq {W : World} {B n cap : Nat} {A : Option Addr} {l : List Int} (hl : l.length = n) (h : Seq W B A l) : (convert 25 9 (.slice A n cap)).run Try.prog W = .ok (.string (strOf l)) W := by
 cases A with
 | none =>
  have h0 : l.length = 0 := by
   rcases Nat.eq_zero_or_pos l.length with e | e
   ·
    exact e
   ·
    obtain ⟨b, o, e2, _⟩ := h e; cases e2
  obtain rfl : l = [] := List.eq_nil_of_length_eq_zero h0
  obtain rfl : n = 0 := by rw [← hl]; rfl
  rw [run_convert_bytes_string W _ _ _ _ _ _ Try.underlying25 Try.underlying5 Try.underlying9]
  rfl
 | some ad =>
  rw [run_convert_bytes_string W _ _ _ _ _ _ Try.underlying25 Try.underlying5 Try.underlying9, run_bytesToString W _ n cap l, strOf_eq]
  have hl2 := run_loadCells_list (P := Try.prog) W ad (l.map (Value.int .u8)) (fun j v hv => by
   rw [List.getElem?_map] at hv
   cases hi : l[j]? with
   | none => rw [hi] at hv; cases hv
   | some z =>
    rw [hi] at hv
    injection hv with hv
    have hil := List.getElem?_eq_some_iff.1 hi
    obtain ⟨b, o, e, hb, hc⟩ := h (Nat.lt_of_le_of_lt (Nat.zero_le _) hil.1)
    injection e with e
    subst e
    rw [plain_add, ← hv, ← hil.2]
    exact hc j hil.1)
  rw [List.length_map, hl] at hl2
  exact hl2
theorem rem_natR {x : Int} {n : Nat} (hx : 0 ≤ x) (hn : 0 < n) : ∃ r : Nat, x.tmod (n : Int) = (r : Int) ∧ r < n := by
 rw [Int.tmod_eq_emod_of_nonneg hx]
 have h1 := Int.emod_nonneg x (b := (n : Int)) (by omega)
 have h2 := Int.emod_lt_of_pos x (b := (n : Int)) (by omega)
 exact ⟨(x % (n : Int)).toNat, by omega, by omega⟩
theorem met_le {m a : Int} {rs : List Rule} (hG : GoodL m a rs) {l : List Nat} {v : Nat × Int} (h : MetP rs l v) : v.1 ≤ l.length := by
 obtain ⟨ks, h⟩ := h
 have key : ∀ (ks : List Int) (u v : Nat × Int), u.1 ≤ l.length → goE (edgP rs l) u ks = some v → v.1 ≤ l.length := by
  intro ks
  induction ks with
  | nil => intro u v h1 h2; cases h2; exact h1
  | cons k r ih =>
   intro u v h1 h2
   obtain ⟨x, h3, h4⟩ := goE_cons.1 h2
   exact ih x v (edgP_ok hG h1 h3).1 h4
 exact key ks (0, 0) v (Nat.zero_le _) h
theorem best_len {m a : Int} {rs : List Rule} (hG : GoodL m a rs) (hm : 1 ≤ m ∧ m ≤ 8) {s : List Nat} {ks : List Int} (h : BestE (edgP rs s) (cstR rs) (finP a s) (0, 0) ks) : ks.length ≤ 4 * ((s.length + 1) * 8) := by
 obtain ⟨M, hM⟩ : ∃ M : Nat, m = (M : Int) := ⟨m.toNat, by omega⟩
 obtain ⟨u, h1, _⟩ := h.1
 have h2 := len_le_cst hG ks _ _ h1
 have h4 := minE_bound (L := nodesP s.length M) (C := 4) (edgP_cst hG)
  (fun v k u hv he => by
   obtain ⟨g1, g2, g3, _⟩ := edgP_ok hG (nodesP_mem.1 hv).1 he
   exact nodesP_mem.2 ⟨g1, g2, by omega⟩)
  (v := (0, 0)) (nodesP_mem.2 ⟨Nat.zero_le _, Int.le_refl _, by show (0 : Int) < (M : Int); omega⟩) h.min
 rw [nodesP_len] at h4
 have h5 : (s.length + 1) * M ≤ (s.length + 1) * 8 := Nat.mul_le_mul_left _ (by omega)
 omega
theorem top_end {m a : Int} {rs : List Rule} (hG : GoodL m a rs) {l : List Nat} {ks : List Int} {G : Nat} (h : GdE (edgP rs l) (finP a l) (0, 0) ks) (hT : TopP rs l G) : G = l.length := by
 obtain ⟨⟨i, mo⟩, h1, h2⟩ := h
 have h3 := hT.2 (i, mo) ⟨ks, h1⟩
 obtain ⟨mo', h4⟩ := hT.1
 have h5 := met_le hG h4
 unfold finP at h2
 simp only [Bool.and_eq_true, decide_eq_true_eq] at h2
 dsimp only at h3 h5
 omega
set_option maxRecDepth 10000 in
set_option maxHeartbeats 8000000 in
theorem walk_refuses (bs dr : Int) (A : Option Addr) (n k : Nat) (XA : Option Addr) (xk : Nat) (xs : List Int) (YA : Option Addr) (yk : Nat) (ys : List Int) (w : World) (hW : RawMs w w.heap.size A n) (hbs : 0 ≤ bs ∧ bs < 256) (hdr : 0 ≤ dr ∧ dr < 256) (hX : Seq w w.heap.size XA xs) (hxs : ∀ z ∈ xs, 0 ≤ z ∧ z < 256) (hY : Seq w w.heap.size YA ys) (hys : ∀ z ∈ ys, 0 ≤ z ∧ z < 256) :
  Calls Try.prog 9 #[.agg #[.int .u8 bs, .int .u8 dr, .slice A n k], .slice XA xs.length xk, .slice YA ys.length yk] w fun e w' => e = .returned (.bool true) ∧ Below w.heap.size w w' := by
 obtain ⟨g, hg⟩ : ∃ g, w.heap.size = g := ⟨_, rfl⟩
 have V0A : Hid (Blk (w.alloc (.cells #[.int .u8 bs, .int .u8 dr, .slice A n k] 24)) g 24 #[.int .u8 bs, .int .u8 dr, .slice A n k]) := by
  unfold Hid; rw [← hg]; exact Blk.new w _ _
 have V0B : Hid (Below w.heap.size w (w.alloc (.cells #[.int .u8 bs, .int .u8 dr, .slice A n k] 24))) := (Below.refl _ _).alloc (Nat.le_refl _) _
 have HW := Lib.hid hW
 have HX := Lib.hid hX
 have HXS := Lib.hid hxs
 have HY := Lib.hid hY
 have HYS := Lib.hid hys
 clear hW hX hxs hY hys
 go_enter Try.func9, Try.ntmps9
 go_wp2_with fail
 generalize w.alloc (.cells #[.int .u8 bs, .int .u8 dr, .slice A n k] 24) = V0 at *
 refine (sanity6_any _).mono ?_
 rintro e w1 ⟨rfl, hb1⟩
 have A1 := Lib.hid (V0A.out.keep hb1 (Blk.lt V0A.out))
 have B1 : Hid (Below w.heap.size w w1) := below_next V0B.out hb1
 clear hb1 V0A V0B
 have a0 := A1.out.cell 0
 have a1 := A1.out.cell 1
 have a2 := A1.out.cell 2
 simp only [List.getElem?_toArray, List.getElem?_cons_zero, List.getElem?_cons_succ] at a0 a1 a2
 go_wp2_with fail
 have HW1 : RawMs w1 w1.heap.size A n := HW.out.up B1.out
 refine (made_any w1 A n k bs dr HW1 hbs hdr).mono ?_
 rintro e w2 ⟨m, a, rs, v, rfl, hM, hG, hl10, hm12, ha, hb2⟩
 obtain ⟨A2, k2, rfl, hR2, hk2⟩ := (Made.b hM).rules
 have HG := Lib.hid hG
 have R2 := Lib.hid hR2
 have B2 : Hid (Below w.heap.size w w2) := below_next B1.out hb2
 clear hb2 hM hG hR2 a0 a1 a2 HW1 B1 A1 HW
 obtain ⟨q, hq⟩ : ∃ q, w2.heap.size = q := ⟨_, rfl⟩
 go_upto_region 3 with fail
 have BA : Hid (Below w2.heap.size w2 (w2.alloc (.cells #[.int .i64 m, .int .u8 a, .slice A2 rs.length k2] 30))) := below_box _ _ _
 have T3 : Hid (Blk (w2.alloc (.cells #[.int .i64 m, .int .u8 a, .slice A2 rs.length k2] 30)) q 30 #[.int .i64 m, .int .u8 a, .slice A2 rs.length k2]) := by
  unfold Hid; rw [← hq]; exact Blk.new w2 _ _
 have R3 := Lib.hid (R2.out.up BA.out)
 have B3 : Hid (Below w.heap.size w (w2.alloc (.cells #[.int .i64 m, .int .u8 a, .slice A2 rs.length k2] 30))) := below_next B2.out BA.out
 generalize w2.alloc (.cells #[.int .i64 m, .int .u8 a, .slice A2 rs.length k2] 30) = w3 at *
 clear hq BA R2 B2
 have t0 := T3.out.cell 0
 have t1 := T3.out.cell 1
 have t2 := T3.out.cell 2
 simp only [List.getElem?_toArray, List.getElem?_cons_zero, List.getElem?_cons_succ] at t0 t1 t2
 have hn0 : 0 < rs.length := by
  have h := HG.out.1
  unfold numsB at h
  simp only [Bool.and_eq_true, decide_eq_true_eq] at h
  omega
 go_wp2_with fail
 refine (spelled_any m a A2 rs.length k2 rs w3 rfl R3.out (by omega) hn0 XA xs.length xk xs rfl (HX.out.up B3.out) HXS.out).mono ?_
 rintro e w4 ⟨S, rfl, hS, _, hb4⟩
 have T4 := Lib.hid (T3.out.keep hb4 T3.out.lt)
 have R4 := Lib.hid (R3.out.up hb4)
 have B4 : Hid (Below w.heap.size w w4) := below_next B3.out hb4
 clear hb4 t0 t1 t2 T3 R3 B3 HX HXS
 obtain ⟨w5, rfl⟩ : ∃ w5 : World, w5 = w4 := ⟨_, rfl⟩
 obtain ⟨tb, htb⟩ : ∃ tb : Bool, tb = (decide (0 < ys.length) && decide (ys.length < 4)) := ⟨_, rfl⟩
 have HTB := Lib.hid htb
 clear htb
 go_upto_region 4 with fail
 go_cut [29] from 22 to 29 (fun s29 wx => s29 = .bool tb ∧ wx = w5)
 case first =>
  by_cases h1 : 0 < ys.length
  ·
   have h1i : (0 : Int) < (ys.length : Int) := by omega
   by_cases h2 : ys.length < 4
   ·
    have h2i : (ys.length : Int) < 4 := by omega
    have e : Hid (true = tb) := by unfold Hid; rw [HTB.out, decide_eq_true h1, decide_eq_true h2]; rfl
    go_wp2_with fail
    go_meet
    exact ⟨by rw [← e.out], rfl⟩
   ·
    have h2i : ¬ (ys.length : Int) < 4 := by omega
    have e : Hid (false = tb) := by unfold Hid; rw [HTB.out, decide_eq_true h1, decide_eq_false h2]; rfl
    go_wp2_with fail
    go_meet
    exact ⟨by rw [← e.out], rfl⟩
  ·
   have h1i : ¬ (0 : Int) < (ys.length : Int) := by omega
   have e : Hid (false = tb) := by unfold Hid; rw [HTB.out, decide_eq_false h1]; rfl
   go_wp2_with fail
   go_meet
   exact ⟨by rw [← e.out], rfl⟩
 case rest =>
  obtain ⟨rfl, rfl⟩ := hcut
  obtain ⟨w6, rfl⟩ : ∃ w6 : World, w6 = wc := ⟨_, rfl⟩
  go_upto_if 29 with fail
  go_cut [9, 10] from 29 to 47 (fun s9 _ wx => ∃ S2 : ByteArray, s9 = .string S2 ∧ S2.size ≤ 15 ∧ Below w6.heap.size w6 wx)
  case first =>
   cases tb with
   | false =>
    go_wp2_with fail
    go_meet
    exact ⟨S, rfl, by omega, Below.refl _ _⟩
   | true =>
    have hy := HTB.out.symm
    rw [Bool.and_eq_true, decide_eq_true_eq, decide_eq_true_eq] at hy
    obtain ⟨hy1, hy2⟩ := hy
    have hY6 := HY.out.up B4.out
    obtain ⟨yb, yo, rfl, hyb, hyc⟩ := hY6 hy1
    have y0 := hyc 0 hy1
    rw [Nat.add_zero] at y0
    have hyv := HYS.out _ (List.getElem_mem hy1)
    have HYA := Lib.hid hY6
    clear hY6 hyc
    generalize ys[0] = yv at *
    have hyi1 : (0 : Int) < (ys.length : Int) := by omega
    obtain ⟨ii, hii, hil⟩ := @rem_natR yv (S.size + 1) hyv.1 (by omega)
    have hii' : yv.tmod ((S.size : Int) + 1) = (ii : Int) := by rw [← hii]; rfl
    have hcv := conv_seq (W := w6.drew) (n := ys.length) (cap := yk) rfl (show Seq w6.drew w6.heap.size (some ⟨yb, yo, none⟩) ys from HYA.out)
    have hss := strOf_size ys
    obtain ⟨bS, hbS⟩ : ∃ bS, strOf ys = bS := ⟨_, rfl⟩
    rw [hbS] at hcv hss
    clear hbS
    have hs1 : (S.extract 0 ii).size ≤ 12 := by rw [ByteArray.size_extract]; omega
    have hs2 : (S.extract ii S.size).size ≤ 12 := by rw [ByteArray.size_extract]; omega
    have hsum : (S.extract 0 ii).size + (S.extract ii S.size).size ≤ 12 := by rw [ByteArray.size_extract, ByteArray.size_extract]; omega
    have HSZ : Hid ((S.extract 0 ii ++ bS ++ S.extract ii S.size).size ≤ 15) := by
     unfold Hid
     rw [ByteArray.size_append, ByteArray.size_append]
     omega
    have hc1 : ¬ 9223372036854775807 < (S.extract 0 ii).size + bS.size := by omega
    have hc2 : ¬ 9223372036854775807 < (S.extract 0 ii).size + bS.size + (S.extract ii S.size).size := by omega
    have hc3 : ¬ 9223372036854775807 < min ii S.size + bS.size := by omega
    have hc4 : ¬ 9223372036854775807 < min ii S.size + bS.size + (S.size - ii) := by omega
    clear hsum hs1 hs2 hss
    have hii0 : (0 : Int) ≤ (ii : Int) := by omega
    have hii1 : (ii : Int) ≤ (S.size : Int) := by omega
    go_upto_region 6 with fail
    go_region
    go_wp2_with fail
    go_meet
    exact ⟨_, rfl, HSZ.out, (Below.refl _ _).drew⟩
  case rest =>
   obtain ⟨S2, rfl, hS2, hb7⟩ := hcut
   have T5 := Lib.hid (T4.out.keep hb7 T4.out.lt)
   have R5 := Lib.hid (R4.out.up hb7)
   have B5 : Hid (Below w.heap.size w wc) := below_next B4.out hb7
   clear hb7 T4 R4 B4 HTB HY HYS
   have HTE := Lib.hid (textE_all (bytes S2))
   have HTX := Lib.hid (fun W => rText_any S2 W (by omega))
   have HTA : Hid (∀ W, Below wc.heap.size wc W → TbAt m a A2 rs.length k2 rs W) := fun W hb => ⟨R5.out.up hb, HG.out, rfl, by omega, by omega, ha, hk2⟩
   have t0 := T5.out.cell 0
   have t1 := T5.out.cell 1
   have t2 := T5.out.cell 2
   simp only [List.getElem?_toArray, List.getElem?_cons_zero, List.getElem?_cons_succ] at t0 t1 t2
   obtain ⟨te, hte⟩ : ∃ te, textE (bytes S2) = te := ⟨_, rfl⟩
   obtain ⟨tx, htx⟩ : ∃ tx, textAt (bytes S2) = tx := ⟨_, rfl⟩
   rw [hte] at HTE HTX
   rw [htx] at HTX
   have HTXE := Lib.hid htx
   clear hte htx
   go_wp2_with fail
   refine (HTX.out _).mono ?_
   rintro e w7 ⟨rfl, rfl⟩
   go_wp2_with fail
   refine (write_any m a A2 rs.length k2 rs S2 wc rfl R5.out HG.out (by omega) (by omega) ha hk2 (by omega)).mono ?_
   rintro e w7 ⟨CA, ck, PA, pk, cs, ks, pl, er, rfl, hsq, hsn, hwr, hb7⟩
   have T7 := Lib.hid (T5.out.keep hb7 T5.out.lt)
   have B7 : Hid (Below wc.heap.size wc w7) := hb7
   have HSQ := Lib.hid hsq
   have HSN := Lib.hid hsn
   have HWR := Lib.hid hwr
   clear hsq hsn hwr hb7 t0 t1 t2 T5
   have BX := below_box w7 #[.slice CA cs.length ck, .slice PA ks.length pk] 60
   have TQ : Hid (Blk (w7.alloc (.cells #[.slice CA cs.length ck, .slice PA ks.length pk] 60)) w7.heap.size 60 #[.slice CA cs.length ck, .slice PA ks.length pk]) := Blk.new _ _ _
   go_upto_region 9 with fail
   have T8 := Lib.hid (T7.out.keep BX T7.out.lt)
   have B8 : Hid (Below wc.heap.size wc (w7.alloc (.cells #[.slice CA cs.length ck, .slice PA ks.length pk] 60))) := below_next B7.out BX
   have S8 := Lib.hid (HSQ.out.up BX)
   have N8 := Lib.hid (HSN.out.up BX)
   generalize w7.alloc (.cells #[.slice CA cs.length ck, .slice PA ks.length pk] 60) = w8 at *
   obtain ⟨d, hd⟩ : ∃ d, w7.heap.size = d := ⟨_, rfl⟩
   rw [hd] at TQ
   simp only [hd]
   clear hd BX B7 T7 HSQ HSN
   have B9 : Hid (Below w.heap.size w w8) := below_next B5.out B8.out
   have t0 := T8.out.cell 0
   have t1 := T8.out.cell 1
   have t2 := T8.out.cell 2
   have d0 := TQ.out.cell 0
   have d1 := TQ.out.cell 1
   simp only [List.getElem?_toArray, List.getElem?_cons_zero, List.getElem?_cons_succ] at t0 t1 t2 d0 d1
   have HCO : Hid (∀ v : Int, CostR a rs (bytes S2) v → ∀ W, Below w8.heap.size w8 W → Calls Try.prog 35 #[.agg #[.int .i64 m, .int .u8 a, .slice A2 rs.length k2], .string S2] W fun e w' => e = .returned (.int .i64 v) ∧ Below W.heap.size W w') := fun v hv W hb =>
    cost6_any m a A2 rs.length k2 rs S2 v W (HTA.out W (below_next B8.out hb)) (by omega) hv
   have HRC : Hid (∀ W, Below w8.heap.size w8 W → Calls Try.prog 38 #[.agg #[.int .i64 m, .int .u8 a, .slice A2 rs.length k2], .string S2] W (Rch6End rs (bytes S2) W)) := fun W hb =>
    reached6_any m a A2 rs.length k2 rs S2 W rfl (R5.out.up (below_next B8.out hb)) HG.out (by omega) (by omega) (by omega)
   rcases HWR.out with ⟨ht, hcs, hks, hpl, her⟩ | ⟨ht, ⟨hbest, hcs, hpl, her⟩ | ⟨hno, hcs, hks, htop, her⟩⟩
   ·
    subst hcs hks her
    rw [HTXE.out] at hpl
    subst hpl
    have hne : te ≠ 0 := fun e => by
     have h := HTE.out
     rw [e, ht] at h
     cases h
    have HC1 := Lib.hid (HCO.out (-1) ⟨[], [], _, _, HWR.out, .inr ⟨by decide, rfl⟩⟩)
    clear HWR HRC HCO ht HTE HTX
    go_wp2_with fail
    refine (HC1.out _ (Below.refl _ _)).mono ?_
    rintro e w9 ⟨rfl, hb9⟩
    have B10 := Lib.hid (below_next B9.out hb9)
    clear hb9
    go_wp2_with fail
    go_ret
    exact ⟨rfl, B10.out⟩
   ·
    have hte0 : te = 0 := by
     have h := HTE.out
     rw [ht] at h
     exact eq_of_beq h
    subst hte0 her
    rw [bytes_len] at hpl
    subst hpl
    have hg := hbest.1
    have HWT : Hid (wrsB a rs S2 cs ks = true) := by
     unfold Hid
     rw [hcs]
     exact wrs_true HG.out R5.out.fit hg
    have hkl : ks.length ≤ 1000000 := by
     have h := best_len HG.out (by omega) hbest
     rw [bytes_len] at h
     omega
    have HTP : Hid (∀ G, TopP rs (bytes S2) G → G = S2.size) := fun G h => by
     have h2 := top_end HG.out hg h
     rw [bytes_len] at h2
     exact h2
    clear HWR HCO ht HTE HTX hbest hcs hg
    go_wp2_with fail
    refine (HRC.out _ (Below.refl _ _)).mono ?_
    rintro e w9 ⟨G, rfl, htg, hb9⟩
    rw [HTP.out G htg]
    have B10 := Lib.hid (below_next B9.out hb9)
    have R10 := Lib.hid (R5.out.up (below_next B8.out hb9))
    have S10 := Lib.hid (S8.out.up hb9)
    have N10 := Lib.hid (N8.out.up hb9)
    have t0' := (hb9.cell (p := ⟨q, 0, none⟩) T8.out.lt).trans t0
    have t1' := (hb9.cell (p := ⟨q, 1, none⟩) T8.out.lt).trans t1
    have t2' := (hb9.cell (p := ⟨q, 2, none⟩) T8.out.lt).trans t2
    have d0' := (hb9.cell (p := ⟨d, 0, none⟩) TQ.out.lt).trans d0
    have d1' := (hb9.cell (p := ⟨d, 1, none⟩) TQ.out.lt).trans d1
    clear hb9 htg t0 t1 t2 d0 d1
    go_wp2_with fail
    refine (rWrites_any m a A2 rs.length k2 rs S2 CA PA cs.length ck ks.length pk cs ks w9 rfl R10.out HG.out (by omega) (by omega) ha rfl rfl S10.out N10.out hkl).mono ?_
    rintro e w10 ⟨rfl, hb10⟩
    rw [HWT.out]
    have B11 := Lib.hid (below_next B10.out hb10)
    clear hb10
    go_wp2_with fail
    go_ret
    exact ⟨rfl, B11.out⟩
   ·
    have hte0 : te = 0 := by
     have h := HTE.out
     rw [ht] at h
     exact eq_of_beq h
    subst hte0 her hcs hks
    have HC1 := Lib.hid (HCO.out (-1) ⟨[], [], _, _, HWR.out, .inr ⟨by decide, rfl⟩⟩)
    have HTP : Hid (∀ G, TopP rs (bytes S2) G → G = pl) := fun G h => top_one h htop
    clear HWR HCO ht HTE HTX hno htop
    go_wp2_with fail
    refine (HRC.out _ (Below.refl _ _)).mono ?_
    rintro e w9 ⟨G, rfl, htg, hb9⟩
    rw [HTP.out G htg]
    have B10 := Lib.hid (below_next B9.out hb9)
    have HC2 := Lib.hid (HC1.out w9 hb9)
    have t0' := (hb9.cell (p := ⟨q, 0, none⟩) T8.out.lt).trans t0
    have t1' := (hb9.cell (p := ⟨q, 1, none⟩) T8.out.lt).trans t1
    have t2' := (hb9.cell (p := ⟨q, 2, none⟩) T8.out.lt).trans t2
    have d0' := (hb9.cell (p := ⟨d, 0, none⟩) TQ.out.lt).trans d0
    have HTQ := Lib.hid (TQ.out.keep hb9 TQ.out.lt)
    clear hb9 htg t0 t1 t2 d0 d1
    go_wp2_with fail
    refine HC2.out.mono ?_
    rintro e w10 ⟨rfl, hb10⟩
    have B11 := Lib.hid (below_next B10.out hb10)
    have d0 := (hb10.cell (p := ⟨d, 0, none⟩) HTQ.out.lt).trans d0'
    clear hb10
    go_wp2_with fail
    go_ret
    exact ⟨rfl, B11.out⟩
end Go.Proofs.Ytpkdlljefkbmpaa

/-! sixdotlaw06.TranslateRefuses: the row. -/
namespace Go.Proofs.Ytpkdlljefkbmpaa
open Go.ChangeShapes Go.WideShapes Go.ChangeAt Go.WideMaps Go.WideElems Go.RowKit

theorem own : ownKnob Try.prog.godebug = none := by kernel_rfl
theorem laidOut : laidOutB Try.prog = true := by kernel_rfl
set_option maxRecDepth 100000 in
theorem lifted (os : Os) (started : os.Started) (H : Type) (enc : TypeId × Value → H) :
  ReturnsInHanded {} Try.checked os 9 .any (Rows.translateRefusesSpec.pre6 enc Try.prog Try.f9 Rows.translateRefusesRow.domain false) (Rows.translateRefusesSpec.post enc Try.prog Try.f9 false true false false) := by
 refine returnsInHanded_of_change (C := Try.checked) own started (by kernel_rfl) Try.func9
  (ChangeSpec.witness6 (enc := enc) (C := Try.checked) false ⟨#[], #[.agg #[.int .u8 0, .int .u8 0, .slice none 0 0], .slice none 0 0, .slice none 0 0], []⟩ 8 (by kernel_rfl) (by kernel_rfl) (by kernel_rfl) (by kernel_rfl)) ?_
 intro W base args ds gs before hval0 hW hcnd _
 have hval : ∀ (j : Nat) t v, Try.f9.params[j]? = some t → args[j]? = some v → Value.okWide Try.prog W .any base t v := hval0
 have hW' := hW
 obtain ⟨p, q, hA0, hV, rfl, hfz, hnd⟩ := hW
 have hA : DataW.TrodAll enc Try.prog W 0 (fun _ => true) true Try.f9.params.toList args.toList ds p := hA0
 rw [Try.params9] at hA hval
 obtain ⟨v0, vs0, d0, ds0, p0, q0, hargs, rfl, rfl, h0, r0⟩ := trodAll_cons hA
 obtain ⟨v1, vs1, d1, ds1, p1, q1, rfl, rfl, rfl, h1, r1⟩ := trodAll_cons r0
 obtain ⟨v2, vs2, d2, ds2, p2, q2, rfl, rfl, rfl, h2, r2⟩ := trodAll_cons r1
 obtain ⟨rfl, rfl, rfl⟩ := trodAll_nil r2
 obtain rfl : args = #[v0, v1, v2] := by cases args; simp_all
 obtain ⟨rfl, rfl⟩ := trodVars_none hV
 have k0 := h0
 have lt0 : ∀ x ∈ p0, x.block < W.heap.size := by obtain ⟨m, hm⟩ := k0; exact DataW.trod_lt m _ _ _ hm
 have k1 := h1
 have lt1 : ∀ x ∈ p1, x.block < W.heap.size := by obtain ⟨m, hm⟩ := k1; exact DataW.trod_lt m _ _ _ hm
 have k2 := h2
 have lt2 : ∀ x ∈ p2, x.block < W.heap.size := by obtain ⟨m, hm⟩ := k2; exact DataW.trod_lt m _ _ _ hm
 obtain ⟨bs, dr, A, n, k, rfl, hr0, hbs, hdr⟩ := open_raw (hval 0 24 v0 rfl rfl) h0
 obtain ⟨XA1, xk1, xs1, rfl, hx1, hz1⟩ := open_bytesL (hval 1 25 v1 rfl rfl) h1
 obtain ⟨XA2, xk2, xs2, rfl, hx2, hz2⟩ := open_bytesL (hval 2 25 v2 rfl rfl) h2
 clear hA0 hval0
 refine (walk_refuses bs dr A n k XA1 xk1 xs1 XA2 xk2 xs2 W hr0 hbs hdr hx1 hz1 hx2 hz2).mono fun e W' ⟨he, bel⟩ => ?_
 subst he
 exact ⟨_, rfl, _, _, _, [], _, [], hW', trodAll_mk1 (shut_bool Try.underlying4 _), (trodAll_cons_mk (Below.trod laidOut (by kernel_rfl) (of_decide_eq_true (by kernel_rfl)) k0 bel lt0) (trodAll_cons_mk (Below.trod laidOut (by kernel_rfl) (of_decide_eq_true (by kernel_rfl)) k1 bel lt1) (trodAll_cons_mk (Below.trod laidOut (by kernel_rfl) (of_decide_eq_true (by kernel_rfl)) k2 bel lt2) trodAll_mk0))), rfl, bel.frame _, fun h => by cases h⟩

theorem over : Rows.translateRefusesRow.holds Try.pinned (OpenSpec.ofChange Rows.translateRefusesSpec) :=
 OpenClaim.holds_of_wide 9 Try.f9 rfl rfl rfl rfl rfl rfl rfl ⟨rfl, rfl, rfl, rfl, rfl⟩ rfl rfl rfl rfl rfl (by kernel_rfl) Try.func9 (by kernel_rfl)
  (of_decide_eq_true (by kernel_rfl)) (by unfold Func.isWrapper; first | (rw [if_pos (by decide +kernel)]; kernel_rfl) | (rw [if_neg (by decide +kernel)]; exact ⟨rfl, rfl⟩))
  (fun os started H enc _ => lifted os started H enc)

theorem proved : Rows.TranslateRefusesSaid := over
end Go.Proofs.Ytpkdlljefkbmpaa
