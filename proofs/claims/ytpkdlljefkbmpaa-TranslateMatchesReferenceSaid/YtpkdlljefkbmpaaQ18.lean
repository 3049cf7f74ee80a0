/- Merged by program: RSt RAl1 RAl2 -/
import Derived.Test.YtpkdlljefkbmpaaQ17
import Derived.Deep.DeepAppendWide

/-! The reference of package automaton: States. -/
namespace Go.Proofs.Ytpkdlljefkbmpaa
open Go.RowKit Go.Maps

theorem edge_list {rs : List Rule} {i k : Nat} {s : St} {H : Gr} (hs : H.1[i]? = some s) : (edgeG rs i s k H).1 = if (stepS rs s k).2 = true ∧ (stepS rs s k).1 ∉ H.1 then H.1 ++ [(stepS rs s k).1] else H.1 := by
 have hm := List.mem_of_getElem? hs
 unfold edgeG
 by_cases h2 : (stepS rs s k).2 = true
 ·
  by_cases h1 : (stepS rs s k).1 ∈ H.1
  ·
   rw [if_neg (show ¬ ((stepS rs s k).2 = true ∧ (stepS rs s k).1 ∉ H.1) from fun h => h.2 h1)]
   split
   ·
    show insS H.1 _ = _
    unfold insS; rw [if_pos h1]
   ·
    rfl
  ·
   have hne : (stepS rs s k).1 ≠ s := fun e => h1 (by rw [e]; exact hm)
   rw [if_pos (And.intro h2 hne), if_pos (And.intro h2 h1)]
   show insS H.1 _ = _
   unfold insS; rw [if_neg h1]
 ·
  rw [if_neg (fun h => h2 h.1), if_neg (fun h => h2 h.1)]
structure TB (q : Nat) (m a : Int) (A : Option Addr) (n k : Nat) (rs : List Rule) (w : World) : Prop where
 t : Blk w q 30 #[.int .i64 m, .int .u8 a, .slice A n k]
 r : Rules w w.heap.size A rs
theorem TB.next {w w' : World} {q : Nat} {m a : Int} {A : Option Addr} {n k : Nat} {rs : List Rule} (h : TB q m a A n k rs w) (hb : Below w.heap.size w w') : TB q m a A n k rs w' :=
 ⟨h.t.keep hb h.t.lt, (h.r.keep hb).more hb.size⟩
set_option maxRecDepth 10000 in
set_option maxHeartbeats 4000000 in
theorem rStates_any (m a : Int) (A : Option Addr) (n k : Nat) (rs : List Rule) (w : World) (hn : rs.length = n) (hR : Rules w w.heap.size A rs) (hG : GoodL m a rs) (hmax : n ≤ 64) (hm : 1 ≤ m ∧ m ≤ 8) :
  Calls Try.prog 60 #[.agg #[.int .i64 m, .int .u8 a, .slice A n k]] w (StEnd rs w) := by
 have HB := Lib.hid (below_box w #[.int .i64 m, .int .u8 a, .slice A n k] 30)
 have HT := Lib.hid (Blk.new w #[.int .i64 m, .int .u8 a, .slice A n k] 30)
 have HR := Lib.hid (hR.up HB.out)
 have HFT := Lib.hid hR.fit
 have HG := Lib.hid hG
 clear hR hG
 go_enter Try.func60, Try.ntmps60
 go_wp2_with fail
 generalize w.alloc (.cells #[.int .i64 m, .int .u8 a, .slice A n k] 30) = V0 at *
 obtain ⟨q, hq⟩ : ∃ q, w.heap.size = q := ⟨_, rfl⟩
 rw [hq] at HT
 simp only [hq]
 have HQ := Lib.hid hq
 clear hq
 refine (rStart_any V0).mono ?_
 rintro e w1 ⟨rfl, hb1⟩
 rw [show St.start.val = .agg #[.int .i64 0, .int .i64 0, .int .u8 63] from rfl]
 have HT1 : Hid (TB q m a A n k rs w1) := (TB.mk HT.out HR.out).next hb1
 have HB1 : Hid (Below w.heap.size w w1) := below_next HB.out hb1
 clear hb1 HT HR HB
 go_upto_region 2 with fail
 have HO : Hid ((w1.alloc (.cells #[.int .i64 0, .int .i64 0, .int .u8 63] 47)).ownsRow w1.heap.size 47 3 (.slice (some ⟨w1.heap.size, 0, none⟩) 1 1) 1 (startG.1.flatMap St.cs)) := World.ownsRow_lit w1 #[.int .i64 0, .int .i64 0, .int .u8 63] 1 (Nat.le_refl _) (by decide) rfl
 have HB2 : Hid (Below w1.heap.size w1 (w1.alloc (.cells #[.int .i64 0, .int .i64 0, .int .u8 63] 47))) := below_box _ _ _
 generalize w1.alloc (.cells #[.int .i64 0, .int .i64 0, .int .u8 63] 47) = V at *
 obtain ⟨h, hh⟩ : ∃ h, w1.heap.size = h := ⟨_, rfl⟩
 rw [hh] at HO HB2
 simp only [hh]
 have HH := Lib.hid hh
 clear hh
 obtain ⟨i0, hi, hz0, hz1, hz2⟩ := info_parts info_st
 go_wp2_with fail
 go_loopw [3, 4] (fun tv x wr => ∃ (i : Nat) (G : Gr), x = .int .i64 i ∧ i ≤ G.1.length ∧ OkG m G ∧ expG rs (4000 - i) i G = theG rs ∧ wr.ownsRow h 47 3 tv G.1.length (G.1.flatMap St.cs) ∧ Below h w1 wr) (fun _ x _ => 4000 - (intOf x).toNat)
 case atStart => exact ⟨0, startG, rfl, Nat.zero_le _, startG_ok hm.1, rfl, HO.out, HB2.out⟩
 case round =>
  clear HO HB2
  obtain ⟨i, G, rfl, hi1, hok, hex, ho, hb⟩ := hrel
  have hle := hok.le ⟨by omega, hm.2⟩
  obtain ⟨SA, sk, rfl⟩ := own_shape ho
  have HOK := Lib.hid hok
  have HEX := Lib.hid hex
  have HO := Lib.hid ho
  have HB := Lib.hid hb
  clear hok hex ho hb
  by_cases hlt : i < G.1.length
  ·
   have HI := Lib.hid hlt
   have HGI : Hid (G.1[i]? = some (G.1[i]'hlt)) := List.getElem?_eq_getElem hlt
   have HSO : Hid ((G.1[i]'hlt).ok m) := HOK.out.1 _ (List.getElem_mem hlt)
   generalize G.1[i]'hlt = s at *
   obtain ⟨mo, la, ne⟩ := s
   have HSF := Lib.hid (HSO.out.fit hm.2)
   go_wp2_with fail
   go_loopw [3, 5] (fun tv x wr => ∃ kk : Nat, x = .int .i64 kk ∧ kk ≤ n ∧ wr.ownsRow h 47 3 tv (rowG rs i ⟨mo, la, ne⟩ kk G).1.length ((rowG rs i ⟨mo, la, ne⟩ kk G).1.flatMap St.cs) ∧ Below h w1 wr) (fun _ x _ => n - (intOf x).toNat)
   case atStart => exact ⟨0, rfl, Nat.zero_le _, HO.out, HB.out⟩
   case round =>
    clear HO HB
    obtain ⟨kk, rfl, hk1, ho, hb⟩ := hrel
    have HIX : Hid ((rowG rs i ⟨mo, la, ne⟩ kk G).1[i]? = some ⟨mo, la, ne⟩) := more_at (row_more rs i ⟨mo, la, ne⟩ G kk) HGI.out
    have hokH := row_ok HG.out HFT.out (i := i) HSO.out HOK.out kk
    have hleH := hokH.le ⟨by omega, hm.2⟩
    have HEL : Hid ((rowG rs i ⟨mo, la, ne⟩ (kk + 1) G).1 = _) := edge_list (rs := rs) (i := i) (k := kk) HIX.out
    have HKE : Hid (kk = n → (rowG rs i ⟨mo, la, ne⟩ n G).1 = (rowG rs i ⟨mo, la, ne⟩ kk G).1) := fun e => by rw [e]
    generalize (rowG rs i ⟨mo, la, ne⟩ kk G).1 = H at *
    obtain ⟨TA, tk, rfl⟩ := own_shape ho
    have hil := (List.getElem?_eq_some_iff.1 HIX.out)
    obtain ⟨b, rfl, hbb, c0, c1, c2⟩ := st_cells ho hil.1
    rw [hil.2] at c0 c1 c2
    dsimp only at c0 c1 c2
    have HIL := Lib.hid hil.1
    have HO := Lib.hid ho
    have HB := Lib.hid hb
    have HTR := Lib.hid (HT1.out.next (w' := wr) (by rw [HH.out]; exact hb))
    clear ho hb hil hokH
    have t2 := HTR.out.t.cell 2
    simp only [List.getElem?_toArray, List.getElem?_cons_zero, List.getElem?_cons_succ] at t2
    by_cases hlk : kk < n
    ·
     have HK := Lib.hid hlk
     obtain ⟨sr, hsr⟩ : ∃ sr, stepS rs ⟨mo, la, ne⟩ kk = sr := ⟨_, rfl⟩
     have HSE := Lib.hid hsr
     have hin : (i : Int) < (H.length : Int) := by have := HIL.out; omega
     have hi00 : (0 : Int) ≤ (i : Int) := by omega
     rw [hsr] at HEL
     clear hsr
     obtain ⟨⟨ta, tb, tc⟩, okb⟩ := sr
     go_upto_region 8 with fail
     refine wp_region_mid2 12 0 (by kernel_rfl) (fun y => (.agg #[.int .i64 m, .int .u8 a, .slice A n k]) :: (.pointer (some ⟨q, 0, none⟩)) :: (.slice none 0 0) :: (.slice (some ⟨b, 0, none⟩) H.length tk) :: (.int .i64 ↑i) :: (.int .i64 ↑kk) :: y 10 :: u7 :: (.agg #[.int .i64 0, .int .i64 0, .int .u8 63]) :: (.slice (some ⟨h, 0, none⟩) 1 1) :: (.int .i64 ↑i) :: (.slice SA G.fst.length sk) :: (.int .i64 ↑G.fst.length) :: (.bool true) :: u14 :: u15 :: (.int .i64 ↑kk) :: (.pointer (some ⟨q, 2, none⟩)) :: (.slice A n k) :: (.int .i64 ↑n) :: (.bool true) :: u21 :: u22 :: y 7 :: y 0 :: y 1 :: y 2 :: y 3 :: y 4 :: y 5 :: y 6 :: y 8 :: y 9 :: u33 :: u34 :: u35 :: u36 :: u37 :: u38 :: u39 :: u40 :: u41 :: u42 :: u43 :: undef :: []) (stS wr ((⟨ta, tb, tc⟩, okb) : St × Bool).1) (phiS wr (.agg #[.int .i64 m, .int .u8 a, .slice A n k]) (.slice (some ⟨b, 0, none⟩) H.length tk) (.int .i64 i) (.pointer (some ⟨b, i * 3, none⟩)) (.agg #[.int .i64 mo, .int .i64 la, .int .u8 ne]) (.int .i64 kk) ((⟨ta, tb, tc⟩, okb) : St × Bool)) (fun i => match i with | 0 => u24 | 1 => u25 | 2 => u26 | 3 => u27 | 4 => u28 | 5 => u29 | 6 => u30 | 7 => u23 | 8 => u31 | 9 => u32 | 10 => u6 | _ => undef)
      (by kernel_rfl) (by kernel_rfl) (by kernel_rfl) (by kernel_rfl) ?_ [0, 1, 2, 3, 4, 5, 6, 7, 8, 9, 10, 11] (by kernel_rfl) ?_ ?_
     ·
      exact ⟨(Below.refl _ _).drew, fun h => by cases h⟩
     ·
      refine allCons ?_ (allCons ?_ (allCons ?_ (allCons ?_ (allCons ?_ (allCons ?_ (allCons ?_ (allCons ?_ (allCons ?_ (allCons ?_ (allCons ?_ (allCons ?_ allNil)))))))))))
      all_goals intro bl y w10 K3 hbi hS hd hK3
      ·
       have hS3 := HTR.out.next hS.1
       have q0 := hS3.t.cell 0
       have q1 := hS3.t.cell 1
       have q2 := hS3.t.cell 2
       simp only [List.getElem?_toArray, List.getElem?_cons_zero, List.getElem?_cons_succ] at q0 q1 q2
       refine wpOp_step rfl (fun K2 hK2 => ?_)
       go_simp
       exact hK2 _ _ (hK3 _ _ (stS_same hS (by decide) (Below.refl _ _)) rfl (fun _ _ h => h))
      ·
       refine wpOp_step rfl (fun K2 hK2 => ?_)
       go_simp
       exact hK2 _ _ (hK3 _ _ (stS_same hS (by decide) (Below.refl _ _)) rfl (fun _ _ h => h))
      ·
       refine wpOp_step rfl (fun K2 hK2 => ?_)
       go_simp
       exact hK2 _ _ (hK3 _ _ (stS_same hS (by decide) (Below.refl _ _)) rfl (fun _ _ h => h))
      ·
       have e1 : y 1 = _ := (hd 1 rfl).2
       have e2 : y 2 = _ := (hd 2 rfl).2
       obtain ⟨y, rfl⟩ := upd_at (y := y) (i := 1) e1
       obtain ⟨y, rfl⟩ := upd_at (y := y) (i := 2) e2
       dsimp [upd]
       refine wpOp_step rfl (fun K2 hK2 => ?_)
       go_simp
       exact hK2 _ _ (hK3 _ _ (stS_same hS (by decide) (Below.refl _ _)) rfl (fun _ _ h => h))
      ·
       have e3 : y 3 = _ := (hd 3 rfl).2
       obtain ⟨y, rfl⟩ := upd_at (y := y) (i := 3) e3
       dsimp [upd]
       have q0 := (hS.1.cell (p := ⟨b, i * 3, none⟩) hbb).trans c0
       have q1 := (hS.1.cell (p := ⟨b, i * 3 + 1, none⟩) hbb).trans c1
       have q2 := (hS.1.cell (p := ⟨b, i * 3 + 2, none⟩) hbb).trans c2
       refine wpOp_step rfl (fun K2 hK2 => ?_)
       go_simp
       exact hK2 _ _ (hK3 _ _ (stS_same hS (by decide) (Below.refl _ _)) rfl (fun _ _ h => h))
      ·
       refine wpOp_step rfl (fun K2 hK2 => ?_)
       go_simp
       exact hK2 _ _ (hK3 _ _ (stS_same hS (by decide) (Below.refl _ _)) rfl (fun _ _ h => h))
      ·
       have e0 : y 0 = _ := (hd 0 rfl).2
       have e4 : y 4 = _ := (hd 4 rfl).2
       have e5 : y 5 = _ := (hd 5 rfl).2
       obtain ⟨y, rfl⟩ := upd_at (y := y) (i := 0) e0
       obtain ⟨y, rfl⟩ := upd_at (y := y) (i := 4) e4
       obtain ⟨y, rfl⟩ := upd_at (y := y) (i := 5) e5
       dsimp [upd]
       have hS3 := HTR.out.next hS.1
       refine wpOp_step rfl (fun K2 hK2 => ?_)
       go_simp
       refine (rStep_any m a A n k rs ⟨mo, la, ne⟩ kk hn HSF.out (by omega) w10 hS3.r).mono ?_
       rw [HSE.out]
       rintro e' w2 ⟨rfl, hb⟩
       exact hK2 _ _ (hK3 _ _ (stS_same hS (by decide) hb) rfl (fun _ _ h => phiS_below hb h))
      ·
       have e6 : y 6 = _ := (hd 6 rfl).2
       obtain ⟨y, rfl⟩ := upd_at (y := y) (i := 6) e6
       dsimp [upd]
       refine wpOp_step rfl (fun K2 hK2 => ?_)
       go_simp
       exact hK2 _ _ (hK3 _ _ (stS_same hS (by decide) (Below.refl _ _)) rfl (fun _ _ h => h))
      ·
       have e7 : y 7 = _ := (hd 7 rfl).2
       obtain ⟨y, rfl⟩ := upd_at (y := y) (i := 7) e7
       dsimp [upd]
       refine wpOp_step rfl (fun K2 hK2 => ?_)
       go_simp
       exact hK2 _ _ (hK3 _ _ (stS_same hS (by decide) (Below.refl _ _)) rfl (fun _ _ h => h))
      ·
       have e7 : y 7 = _ := (hd 7 rfl).2
       obtain ⟨y, rfl⟩ := upd_at (y := y) (i := 7) e7
       dsimp [upd]
       refine wpOp_step rfl (fun K2 hK2 => ?_)
       go_simp
       exact hK2 _ _ (hK3 _ _ (stS_same hS (by decide) (Below.refl _ _)) rfl (fun _ _ h => h))
      ·
       refine wpOp_step rfl (fun K2 hK2 => ?_)
       go_simp
       exact hK2 _ _ (hK3 _ _ (stS_alloc hS hbi _) ⟨_, rfl, hS.1.size, _, _, _, Blk.new _ _ _⟩ (fun _ _ h => phiS_below (below_box _ _ _) h))
      ·
       have e8 : y 8 = .agg #[.int .i64 ((⟨ta, tb, tc⟩, okb) : St × Bool).1.mode, .int .i64 ((⟨ta, tb, tc⟩, okb) : St × Bool).1.last, .int .u8 ((⟨ta, tb, tc⟩, okb) : St × Bool).1.need] := (hd 8 rfl).2
       obtain ⟨hb10, g, e10, hg, za, zb, zc, hB⟩ := hd 10 rfl
       have hS2 := stS_store (v := undef) hS hb10 e10 hg hB
       obtain ⟨y, rfl⟩ := upd_at (y := y) (i := 8) e8
       obtain ⟨y, rfl⟩ := upd_at (y := y) (i := 10) e10
       dsimp [upd]
       have d0 := hB.cell 0
       have d1 := hB.cell 1
       have d2 := hB.cell 2
       have f0 := hB.free 0
       have f1 := hB.free 1
       have f2 := hB.free 2
       simp only [List.getElem?_toArray, List.getElem?_cons_zero, List.getElem?_cons_succ] at d0 d1 d2
       refine wpOp_step rfl (fun K2 hK2 => ?_)
       go_simp
       exact hK2 _ _ (hK3 undef _ hS2 trivial (fun _ _ hφ => phiS_store hφ))
     ·
      intro bl y w10 f hall hS hd
      have e9 : y 9 = _ := hd 9 (by decide)
      obtain ⟨_, g10, e10, hg10, hB10⟩ := hS.2 (hall 11 (by decide))
      have hb10 := hS.1
      clear hd hall hS
      obtain ⟨y, rfl⟩ := upd_at (y := y) (i := 9) e9
      obtain ⟨y, rfl⟩ := upd_at (y := y) (i := 10) e10
      dsimp [upd]
      refine wpAny_one (i := 12) (by kernel_rfl) ?_
      refine wpOp_step rfl (fun K2 hK2 => ?_)
      go_simp
      refine hK2 _ _ ?_
      clear hK2 K2 e9 e10
      refine wpAny_done (by kernel_rfl) ?_ _
      have HO10 := Lib.hid (own_keep HO.out hb10)
      have HB10 : Hid (Below h w1 w10) := HB.out.trans (hb10.mono (by have := HB.out.size; have := HH.out; omega))
      have d0 := hB10.cell 0
      have d1 := hB10.cell 1
      have d2 := hB10.cell 2
      simp only [List.getElem?_toArray, List.getElem?_cons_zero, List.getElem?_cons_succ] at d0 d1 d2
      dsimp only at d0 d1 d2 HEL
      have HD10 := Lib.hid hB10
      clear hb10 hB10 hg10 c0 c1 c2 HTR HO HB t2 hbb
      cases okb with
      | false =>
       have HN : Hid ((rowG rs i ⟨mo, la, ne⟩ (kk + 1) G).1 = H) := by unfold Hid; rw [HEL.out]; simp
       go_wp2_with fail
       refine ⟨⟨kk + 1, by go_num, HK.out, by rw [HN.out]; exact HO10.out, HB10.out⟩, by have := HK.out; simp [intOf]; omega⟩
      | true =>
       go_wp2_with fail
       refine (index_st (some ⟨b, 0, none⟩) H.length tk H ⟨ta, tb, tc⟩ w10 rfl (own_stAt HO10.out) (by omega)).mono ?_
       rintro e w12 ⟨rfl, hb12⟩
       have HO12 := Lib.hid (own_keep HO10.out hb12)
       have HB12 : Hid (Below h w1 w12) := HB10.out.trans (hb12.mono (by have := HB10.out.size; have := HH.out; omega))
       have HD12 := Lib.hid (HD10.out.keep hb12 HD10.out.lt)
       clear hb12 HO10 HB10 HD10 d0 d1 d2
       by_cases hmem : (⟨ta, tb, tc⟩ : St) ∈ H
       ·
        obtain ⟨px, hpx, _⟩ := idx_mem hmem
        rw [hpx]
        have HN : Hid ((rowG rs i ⟨mo, la, ne⟩ (kk + 1) G).1 = H) := by unfold Hid; rw [HEL.out, if_neg (fun h => h.2 hmem)]
        have hp0 : ¬ (px : Int) < 0 := by omega
        clear hpx hmem
        go_wp2_with fail
        refine ⟨⟨kk + 1, by go_num, HK.out, by rw [HN.out]; exact HO12.out, HB12.out⟩, by have := HK.out; simp [intOf]; omega⟩
       ·
        rw [show idxI H ⟨ta, tb, tc⟩ = -1 from by unfold idxI; rw [if_neg hmem]]
        have HN : Hid ((rowG rs i ⟨mo, la, ne⟩ (kk + 1) G).1 = H ++ [⟨ta, tb, tc⟩]) := by unfold Hid; rw [HEL.out, if_pos ⟨trivial, hmem⟩]
        clear hmem
        have d0 := HD12.out.cell 0
        have d1 := HD12.out.cell 1
        have d2 := HD12.out.cell 2
        simp only [List.getElem?_toArray, List.getElem?_cons_zero, List.getElem?_cons_succ] at d0 d1 d2
        go_upto_region 10 with fail
        have hB13 : Hid (Blk (w12.alloc (.cells #[.int .i64 ta, .int .i64 tb, .int .u8 tc] 47)) w12.heap.size 47 [Value.int .i64 ta, Value.int .i64 tb, Value.int .u8 tc].toArray) := Blk.new _ _ _
        have HO13 : Hid ((w12.alloc (.cells #[.int .i64 ta, .int .i64 tb, .int .u8 tc] 47)).ownsRow h 47 3 (.slice (some ⟨b, 0, none⟩) H.length tk) H.length (H.flatMap St.cs)) := own_keep HO12.out (below_box _ _ _)
        have HB13 : Hid (Below h w1 (w12.alloc (.cells #[.int .i64 ta, .int .i64 tb, .int .u8 tc] 47))) := HB12.out.alloc (by have := HB12.out.size; have := HH.out; omega) _
        have hsz : h ≤ (w12.alloc (.cells #[.int .i64 ta, .int .i64 tb, .int .u8 tc] 47)).heap.size := by have := HB13.out.size; have := HH.out; omega
        go_wp2_with (at_builtin; refine wpList_append_own_wide (w12.alloc (.cells #[.int .i64 ta, .int .i64 tb, .int .u8 tc] 47)) rfl _ _ 112 rfl h 47 i0 (.agg #[.int .i64 0, .int .i64 0, .int .u8 0]) 3 24 Try.underlying112 hi hz0 hz1 hz2 rfl (by decide) _ H.length _ rfl HO13.out ⟨w12.heap.size, 0, none⟩ 1 1 [.int .i64 ta, .int .i64 tb, .int .u8 tc] rfl rfl hB13.out.news (by simp [Value.oneCell']) (by unfold maxLen; omega) (by omega) hsz ?_)
        intro v14 w14 hown hgr _
        have HO14 : Hid (w14.ownsRow h 47 3 v14 (H ++ [(⟨ta, tb, tc⟩ : St)]).length ((H ++ [(⟨ta, tb, tc⟩ : St)]).flatMap St.cs)) := by
         unfold Hid
         rw [List.length_append, List.flatMap_append]
         exact hown
        have HB14 : Hid (Below h w1 w14) := HB13.out.grown hgr (by have := HB13.out.size; have := HH.out; omega) (fun g hg => (HO13.out.lt g hg).1)
        clear hown hgr HO13 HB13 hB13 hsz d0 d1 d2 HD12 HO12 HB12
        go_wp2_with fail
        refine ⟨⟨kk + 1, by go_num, HK.out, by rw [HN.out]; exact HO14.out, HB14.out⟩, by have := HK.out; simp [intOf]; omega⟩
    ·
     have hkn : kk = n := by omega
     have HR2 := Lib.hid (HKE.out hkn)
     have HEX2 : Hid (expG rs (4000 - (i + 1)) (i + 1) (rowG rs i ⟨mo, la, ne⟩ n G) = theG rs) := by
      unfold Hid
      rw [← HEX.out, show 4000 - i = (4000 - (i + 1)) + 1 by omega]
      conv => rhs; unfold expG
      rw [HGI.out, hn]
     have HOK2 := Lib.hid (row_ok HG.out HFT.out (i := i) HSO.out HOK.out n)
     have hgr2 : i + 1 ≤ (rowG rs i ⟨mo, la, ne⟩ n G).1.length := by rw [HR2.out]; exact HIL.out
     subst hkn
     clear c0 c1 c2 hbb
     go_wp2_with fail
     refine ⟨⟨i + 1, rowG rs i ⟨mo, la, ne⟩ kk G, by go_num, hgr2, HOK2.out, HEX2.out, by rw [HR2.out]; exact HO.out, HB.out⟩, by have := HI.out; simp [intOf]; omega⟩
  ·
   have hie : i = G.1.length := by omega
   have HFIN : Hid (theG rs = G) := by
    unfold Hid
    rw [← HEX.out, show 4000 - i = (4000 - i - 1) + 1 by omega]
    unfold expG
    rw [List.getElem?_eq_none (by omega)]
   have HE : Hid (StEnd rs w (.returned (.slice SA G.1.length sk)) wr) := by
    refine ⟨_, _, by rw [HFIN.out], ?_, HB1.out.trans (HB.out.mono (by have := HB1.out.size; have := HH.out; omega))⟩
    rw [HFIN.out]; exact own_stAt HO.out
   subst hie
   go_wp2_with fail
   go_ret
   exact HE.out
end Go.Proofs.Ytpkdlljefkbmpaa

/-! The reference of package automaton: Alive; what its list says, purely. -/
namespace Go.Proofs.Ytpkdlljefkbmpaa
open Go.RowKit Go.Maps
structure Rok (a : Int) (rs : List Rule) (L : List St) (R : List Bool) : Prop where
 len : R.length = L.length
 acc : ∀ (k : Nat) (s : St), L[k]? = some s → accB a s = true → R[k]? = some true
 sound : ∀ (k : Nat) (s : St), L[k]? = some s → R[k]? = some true → Alv a rs s
def ClosedAt (rs : List Rule) (L : List St) (R : List Bool) (i : Nat) : Prop := ∀ s, L[i]? = some s → ∀ k : Nat, k < rs.length → (stepS rs s k).2 = true → ∀ j : Nat, L[j]? = some (stepS rs s k).1 → R[j]? = some true → R[i]? = some true
theorem Rok.set {a : Int} {rs : List Rule} {L : List St} {R : List Bool} (h : Rok a rs L R) {i j k : Nat} {s : St} (hi : L[i]? = some s) (hk : k < rs.length) (h2 : (stepS rs s k).2 = true) (hj : L[j]? = some (stepS rs s k).1) (hr : R[j]? = some true) : Rok a rs L (R.set i true) := by
 have hil : i < R.length := by rw [h.len]; exact (List.getElem?_eq_some_iff.1 hi).1
 refine ⟨by rw [List.length_set]; exact h.len, fun c t hc ha => ?_, fun c t hc hr2 => ?_⟩
 ·
  by_cases e : i = c
  ·
   subst e; rw [List.getElem?_set_self hil]
  ·
   rw [List.getElem?_set_ne e]; exact h.acc c t hc ha
 ·
  by_cases e : i = c
  ·
   subst e
   rw [hi] at hc
   cases hc
   exact Alv.step k hk h2 (h.sound j _ hj hr)
  ·
   rw [List.getElem?_set_ne e] at hr2; exact h.sound c t hc hr2
theorem Rok.full {a : Int} {rs : List Rule} {L : List St} {R : List Bool} (h : Rok a rs L R) (hc : ∀ i, i < L.length → ClosedAt rs L R i) (hcl : Clo rs L L.length) {i : Nat} {s : St} (hs : L[i]? = some s) (hv : Alv a rs s) : R[i]? = some true := by
 induction hv generalizing i with
 | acc ha => exact h.acc i _ hs ha
 | @step s k hk h2 _ ih =>
  have hil := (List.getElem?_eq_some_iff.1 hs).1
  obtain ⟨j, _, hj⟩ := idx_mem (hcl i s hil hs k hk h2)
  exact hc i hil s hs k hk h2 j hj (ih hj)
theorem alive_len {m a : Int} {rs : List Rule} (hG : GoodL m a rs) (hf : ∀ x ∈ rs, x.fits) (hm : 1 ≤ m ∧ m ≤ 8) : (aliveL a (theG rs)).length = (theG rs).1.length := by
 have hok := theG_ok hG hf hm.1
 have hle := hok.le ⟨by omega, hm.2⟩
 exact (prop_end (G := theG rs) (P := fun _ => True) hok.2.2 (theG_lt rs) (fun _ _ _ _ _ _ => trivial) 4000 0 (accL a (theG rs).1 (theG rs).1.length) (acc_ok _) (acc_inq _) (fun _ _ => trivial) (fun c x l h => by omega) (by omega)).1.1
theorem Rok.alive {m a : Int} {rs : List Rule} {R : List Bool} (h : Rok a rs (theG rs).1 R) (hc : ∀ i, i < (theG rs).1.length → ClosedAt rs (theG rs).1 R i) (hG : GoodL m a rs) (hf : ∀ x ∈ rs, x.fits) (hm : 1 ≤ m ∧ m ≤ 8) : R = aliveL a (theG rs) := by
 have hcl := theG_clo hG hf hm
 have hl := alive_len hG hf hm
 refine List.ext_getElem (by rw [hl, h.len]) fun i h1 h2 => ?_
 have hi : i < (theG rs).1.length := by rw [← h.len]; exact h1
 have hs := List.getElem?_eq_getElem hi
 have hiff := alive_iff hG hf hm hs
 have e1 : R[i]? = some R[i] := List.getElem?_eq_getElem h1
 have e2 : (aliveL a (theG rs))[i]? = some (aliveL a (theG rs))[i] := List.getElem?_eq_getElem h2
 cases hr : R[i] with
 | true =>
  rw [hr] at e1
  have := hiff.2 (h.sound i _ hs e1)
  rw [e2] at this
  exact (Option.some.inj this).symm
 | false =>
  cases ha : (aliveL a (theG rs))[i] with
  | false => rfl
  | true =>
   rw [ha] at e2
   have := h.full hc hcl hs (hiff.1 e2)
   rw [e1, hr] at this
   cases this
theorem cnt_set {R : List Bool} {i : Nat} (h : R[i]? = some false) : (R.set i true).count false < R.count false := by
 induction R generalizing i with
 | nil => simp at h
 | cons x R ih =>
  cases i with
  | zero =>
   simp at h
   subst h
   simp
  | succ i =>
   simp at h
   have := ih h
   simp only [List.set_cons_succ, List.count_cons]
   omega
def BoolAt (w : World) (B : Nat) (A : Option Addr) (R : List Bool) : Prop :=
 0 < R.length → ∃ b, A = some ⟨b, 0, none⟩ ∧ b < B ∧ ∀ j (h : j < R.length), w.cell? ⟨b, j, none⟩ = some (.bool R[j])
theorem BoolAt.keep {w w' : World} {B : Nat} {A : Option Addr} {R : List Bool} (h : BoolAt w B A R) (hb : Below B w w') : BoolAt w' B A R := fun h0 => by
 obtain ⟨b, e, hB, hc⟩ := h h0
 exact ⟨b, e, hB, fun j hj => (hb.cell (p := ⟨b, j, none⟩) hB).trans (hc j hj)⟩
theorem BoolAt.more {w : World} {B B' : Nat} {A : Option Addr} {R : List Bool} (h : BoolAt w B A R) (hB : B ≤ B') : BoolAt w B' A R := fun h0 => by
 obtain ⟨b, e, hb, hc⟩ := h h0
 exact ⟨b, e, by omega, hc⟩
theorem own_boolAt {w : World} {base k : Nat} {A : Option Addr} {R : List Bool} (h : w.ownsRow base 4 1 (.slice A R.length k) R.length (R.map Value.bool)) : BoolAt w w.heap.size A R := fun h0 => by
 obtain ⟨b, e, hb, _⟩ := own_cells h (j := 0) (x := .bool R[0]) (by rw [List.getElem?_map, List.getElem?_eq_getElem h0]; rfl)
 refine ⟨b, e, hb, fun j hj => ?_⟩
 obtain ⟨b', e', _, hc⟩ := own_cells h (j := j) (x := .bool R[j]) (by rw [List.getElem?_map, List.getElem?_eq_getElem hj]; rfl)
 rw [e] at e'
 injection e' with e'
 injection e' with e'
 subst e'
 exact hc
def RAlEnd (a : Int) (rs : List Rule) (w : World) (e : Ending) (w' : World) : Prop :=
 ∃ A k, e = .returned (.slice A (theG rs).1.length k) ∧ BoolAt w' w'.heap.size A (aliveL a (theG rs)) ∧ Below w.heap.size w w'
end Go.Proofs.Ytpkdlljefkbmpaa

/-! The reference of package automaton: Alive. -/
namespace Go.Proofs.Ytpkdlljefkbmpaa
open Go.RowKit Go.Maps
theorem wpOp_append_on {P : Program} {ops : Array Oper} {j : Nat} {o : Oper} {a : Act} {w : World} {K : Act → World → Prop} {Q : Exit → Act → World → Prop} (hj : ops[j]? = some o) (hgd : o.guard = none) (s x : Operand) (t : TypeId)
  (ho : o.op = .call { callee := .builtin .append, args := #[s, x], argTypes := #[t, t] })
  (base : Nat) (hbase : base ≤ w.heap.size) (e : TypeId) (i : TypeInfo) (z : Value) (size bytes : Nat) (ht : P.underlying t = some (.slice e)) (hi : P.info? e = some i) (hz : i.zero = some z)
  (hsize : i.size = size) (hby : i.bytes = bytes) (hzs : z.cells.size = size) (hsz : 0 < size)
  (v : Value) (n : Nat) (xs : List Value) (hs : a.eval s = v) (hown : w.ownsRow base e size v n xs)
  (ad : Addr) (m c : Nat) (news : List Value) (hx : a.eval x = .slice (some ad) m c) (hl : news.length = m * size) (hnews : ∀ j u, news[j]? = some u → w.cell? (ad.add j) = some u) (h1 : ∀ u ∈ news, u.oneCell' = true)
  (h63 : n + m ≤ maxLen) (hbytes : (n + m) * bytes ≤ 140737488355328)
  (h : ∀ v' w', w'.ownsRow base e size v' (n + m) (xs ++ news) → w.grownBy w' v.ownBlock → (v'.ownBlock = v.ownBlock ∨ v'.ownBlock = some w.heap.size) → K (a.put o.dst v') w') : wpOp P ops Q j K a w := by
 refine wpOp_step hj fun K2 hK2 => ?_
 have hw : Region.wanted o (yielded ops a.tmps) = true := by simp [Region.wanted, hgd]
 rw [if_pos hw]
 obtain ⟨v', w', hr, h2, h3, _, h5⟩ := run_append_own_at (P := P) w base t o.type e i z size bytes ht hi hz hsize hby hzs hsz v n xs hown ad m c news hl hnews h1 h63 hbytes hbase
 unfold Oper.wp execOp
 simp only [ho, resolve, invoke, builtin, Sem.run_bind, Sem.run_pure, Result.andThen_ok, List.map_toArray, List.map_cons, List.map_nil, hs, hx, hr]
 exact hK2 _ _ (h v' w' h2 h3 h5)
theorem good_acc {m a : Int} {rs : List Rule} (hG : GoodL m a rs) (ha : 0 ≤ a ∧ a < 256) (s : St) : rAccB m a s = accB a s := by
 have h := hG.1
 unfold numsB at h
 simp only [Bool.and_eq_true, decide_eq_true_eq] at h
 exact rAcc_eq ha.1 h.1.1.2
def phiA (tv T L I P SV : Value) (c : Bool) (i : Nat) (v : Value) (w : World) : Prop := match i with
 | 0 => v = tv
 | 1 => v = T
 | 2 => v = L
 | 3 => v = I
 | 4 => v = P
 | 5 => v = SV
 | 6 => v = .bool c
 | 7 => ∃ g, v = .slice (some ⟨g, 0, none⟩) 1 1 ∧ Blk w g 4 [Value.bool c].toArray
 | _ => True
theorem phiA_keep {tv T L I P SV : Value} {c : Bool} {w w' : World} (hb : Below w.heap.size w w') : ∀ {i : Nat} {v : Value}, phiA tv T L I P SV c i v w → phiA tv T L I P SV c i v w'
 | 0, _, h => h
 | 1, _, h => h
 | 2, _, h => h
 | 3, _, h => h
 | 4, _, h => h
 | 5, _, h => h
 | 6, _, h => h
 | 7, _, ⟨g, e, h⟩ => ⟨g, e, h.keep hb h.lt⟩
 | _ + 8, _, _ => trivial
set_option maxRecDepth 10000 in
set_option maxHeartbeats 4000000 in
theorem rAlive_any (m a : Int) (A : Option Addr) (n k : Nat) (rs : List Rule) (w : World) (hn : rs.length = n) (hR : Rules w w.heap.size A rs) (hG : GoodL m a rs) (hmax : n ≤ 64) (hm : 1 ≤ m ∧ m ≤ 8) (ha : 0 ≤ a ∧ a < 256) :
  Calls Try.prog 28 #[.agg #[.int .i64 m, .int .u8 a, .slice A n k]] w (RAlEnd a rs w) := by
 have HB := Lib.hid (below_box w #[.int .i64 m, .int .u8 a, .slice A n k] 30)
 have HT := Lib.hid (Blk.new w #[.int .i64 m, .int .u8 a, .slice A n k] 30)
 have HR := Lib.hid (hR.up HB.out)
 have HFT := Lib.hid hR.fit
 have HG := Lib.hid hG
 have HAC := Lib.hid (good_acc hG ha)
 clear hR hG
 go_enter Try.func28, Try.ntmps28
 go_wp2_with fail
 generalize w.alloc (.cells #[.int .i64 m, .int .u8 a, .slice A n k] 30) = V0 at *
 obtain ⟨q, hq⟩ : ∃ q, w.heap.size = q := ⟨_, rfl⟩
 rw [hq] at HT
 simp only [hq]
 have HQ := Lib.hid hq
 clear hq
 refine (rStates_any m a A n k rs V0 hn HR.out HG.out hmax hm).mono ?_
 rintro e w1 ⟨LA, lk, rfl, hst, hb1⟩
 have HT1 : Hid (TB q m a A n k rs w1) := (TB.mk HT.out HR.out).next hb1
 have HB1 : Hid (Below w.heap.size w w1) := below_next HB.out hb1
 have hok := theG_ok HG.out HFT.out hm.1
 have hle := hok.le ⟨by omega, hm.2⟩
 have hfirst := theG_first rs
 have HCL := Lib.hid (theG_clo HG.out HFT.out hm)
 have HSO := Lib.hid hok.1
 have HND := Lib.hid hok.2.1
 have HFIN : Hid (∀ R, Rok a rs (theG rs).1 R → (∀ i, i < (theG rs).1.length → ClosedAt rs (theG rs).1 R i) → R = aliveL a (theG rs)) := fun R h1 h2 => h1.alive h2 HG.out HFT.out hm
 have HEND : Hid (∀ (A' : Option Addr) (k' : Nat) (R : List Bool) (W : World), R = aliveL a (theG rs) → BoolAt W W.heap.size A' R → Below w.heap.size w W → RAlEnd a rs w (.returned (.slice A' (theG rs).1.length k')) W) := fun A' k' R W h1 h2 h3 => ⟨A', k', rfl, by rw [← h1]; exact h2, h3⟩
 generalize aliveL a (theG rs) = AL at *
 generalize (theG rs).1 = LL at *
 have hpos : 0 < LL.length := (List.getElem?_eq_some_iff.1 hfirst).1
 have HC := Lib.hid hst
 obtain ⟨b, rfl, hbl, _⟩ := hst hpos
 clear hst hok hb1 HT HR HB hfirst
 go_upto_region 2 with fail
 have HO : Hid ((w1.alloc (.cells #[] 4)).ownsRow w1.heap.size 4 1 (.slice (some ⟨w1.heap.size, 0, none⟩) 0 0) 0 (([] : List Bool).map Value.bool)) := World.ownsRow_lit w1 #[] 0 (Nat.le_refl _) (Nat.zero_le _) rfl
 have HB2 : Hid (Below w1.heap.size w1 (w1.alloc (.cells #[] 4))) := below_box _ _ _
 generalize w1.alloc (.cells #[] 4) = V at *
 obtain ⟨h, hh⟩ : ∃ h, w1.heap.size = h := ⟨_, rfl⟩
 rw [hh] at HO HB2
 simp only [hh]
 have HH := Lib.hid hh
 clear hh
 obtain ⟨i0, hi, hz0, hz1, hz2⟩ := info_parts info_bool
 go_wp2_with fail
 go_loopw [4, 5] (fun tv x wr => ∃ (i : Nat), x = .int .i64 i ∧ i ≤ LL.length ∧ wr.ownsRow h 4 1 tv i (((LL.take i).map (accB a)).map Value.bool) ∧ Below h w1 wr) (fun _ x _ => LL.length - (intOf x).toNat)
 case atStart => exact ⟨0, rfl, Nat.zero_le _, HO.out, HB2.out⟩
 case round =>
  clear HO HB2
  obtain ⟨i, rfl, hi1, ho, hb⟩ := hrel
  have HO := Lib.hid ho
  have HB := Lib.hid hb
  have HTR := Lib.hid (HT1.out.next (w' := wr) (by rw [HH.out]; exact hb))
  have HCR : Hid (StAt wr wr.heap.size (some ⟨b, 0, none⟩) LL) := (StAt.keep HC.out (by rw [HH.out]; exact hb)).more (by have := hb.size; omega)
  obtain ⟨TA, tk, rfl⟩ := own_shape ho
  clear ho hb
  by_cases hlt : i < LL.length
  ·
   have HI := Lib.hid hlt
   obtain ⟨b', e', hbb, hc⟩ := HCR.out hpos
   obtain rfl : b = b' := by injection e' with e'; injection e'
   obtain ⟨c0, c1, c2⟩ := hc i hlt
   have HL : Hid (LL[i]? = some (LL[i]'hlt)) := List.getElem?_eq_getElem hlt
   have HSF : Hid ((LL[i]'hlt).fits) := (HSO.out _ (List.getElem_mem hlt)).fit hm.2
   have HNX : Hid (((LL.take (i + 1)).map (accB a)).map Value.bool = ((LL.take i).map (accB a)).map Value.bool ++ [.bool (accB a (LL[i]'hlt))]) := by
    unfold Hid
    rw [List.take_succ_eq_append_getElem hlt, List.map_append, List.map_append]; rfl
   clear hc e'
   generalize LL[i]'hlt = si at *
   obtain ⟨mo, la, ne⟩ := si
   dsimp only at c0 c1 c2
   have hin : (i : Int) < (LL.length : Int) := by omega
   have hi00 : (0 : Int) ≤ (i : Int) := by omega
   go_upto_region 5 with fail
   refine wp_region_head 8 1 (by kernel_rfl) (fun y => (.agg #[.int .i64 m, .int .u8 a, .slice A n k]) :: (.pointer (some ⟨q, 0, none⟩)) :: (.slice none 0 0) :: (.slice (some ⟨b, 0, none⟩) LL.length lk) :: (.slice TA i tk) :: (.int .i64 ↑i) :: undef :: undef :: undef :: undef :: undef :: (.agg #[.int .i64 m, .int .u8 a, .slice A n k]) :: (.slice (some ⟨b, 0, none⟩) LL.length lk) :: (.slice (some ⟨h, 0, none⟩) 0 0) :: (.int .i64 ↑i) :: (.slice (some ⟨b, 0, none⟩) LL.length lk) :: (.int .i64 ↑LL.length) :: (.bool true) :: u18 :: u19 :: y 0 :: y 1 :: y 2 :: y 3 :: y 4 :: y 5 :: y 6 :: y 7 :: u28 :: undef :: undef :: undef :: undef :: undef :: undef :: undef :: undef :: undef :: undef :: undef :: undef :: undef :: undef :: undef :: undef :: undef :: undef :: undef :: undef :: undef :: undef :: undef :: undef :: undef :: undef :: undef :: undef :: undef :: undef :: undef :: undef :: undef :: undef :: undef :: undef :: undef :: undef :: undef :: undef :: undef :: undef :: undef :: undef :: [])
    (fun _ w' => Below wr.heap.size wr w') (phiA (.slice TA i tk) (.agg #[.int .i64 m, .int .u8 a, .slice A n k]) (.slice (some ⟨b, 0, none⟩) LL.length lk) (.int .i64 i) (.pointer (some ⟨b, i * 3, none⟩)) (.agg #[.int .i64 mo, .int .i64 la, .int .u8 ne]) (accB a ⟨mo, la, ne⟩)) (fun i => match i with | 0 => u20 | 1 => u21 | 2 => u22 | 3 => u23 | 4 => u24 | 5 => u25 | 6 => u26 | 7 => u27 | _ => undef)
    (by kernel_rfl) (by kernel_rfl) (by kernel_rfl) (by kernel_rfl) ?_ (Below.refl _ _).drew [0, 1, 2, 3, 4, 5, 6, 7] (by kernel_rfl) ?_ ?_
   ·
    intro j v wa wb h hb
    exact phiA_keep hb h
   ·
    refine allCons ?_ (allCons ?_ (allCons ?_ (allCons ?_ (allCons ?_ (allCons ?_ (allCons ?_ (allCons ?_ allNil)))))))
    all_goals intro y w10 K hS hd hK
    ·
     refine wpOp_step rfl (fun K2 hK2 => ?_)
     go_simp
     exact hK2 _ _ (hK _ _ hS rfl (Below.refl _ _))
    ·
     have hS3 := HTR.out.next hS
     have q0 := hS3.t.cell 0
     have q1 := hS3.t.cell 1
     have q2 := hS3.t.cell 2
     simp only [List.getElem?_toArray, List.getElem?_cons_zero, List.getElem?_cons_succ] at q0 q1 q2
     refine wpOp_step rfl (fun K2 hK2 => ?_)
     go_simp
     exact hK2 _ _ (hK _ _ hS rfl (Below.refl _ _))
    ·
     refine wpOp_step rfl (fun K2 hK2 => ?_)
     go_simp
     exact hK2 _ _ (hK _ _ hS rfl (Below.refl _ _))
    ·
     refine wpOp_step rfl (fun K2 hK2 => ?_)
     go_simp
     exact hK2 _ _ (hK _ _ hS rfl (Below.refl _ _))
    ·
     have e2 : y 2 = _ := hd 2 rfl
     have e3 : y 3 = _ := hd 3 rfl
     obtain ⟨y, rfl⟩ := upd_at (y := y) (i := 2) e2
     obtain ⟨y, rfl⟩ := upd_at (y := y) (i := 3) e3
     dsimp [upd]
     refine wpOp_step rfl (fun K2 hK2 => ?_)
     go_simp
     exact hK2 _ _ (hK _ _ hS rfl (Below.refl _ _))
    ·
     have e4 : y 4 = _ := hd 4 rfl
     obtain ⟨y, rfl⟩ := upd_at (y := y) (i := 4) e4
     dsimp [upd]
     have q0 := (hS.cell (p := ⟨b, i * 3, none⟩) hbb).trans c0
     have q1 := (hS.cell (p := ⟨b, i * 3 + 1, none⟩) hbb).trans c1
     have q2 := (hS.cell (p := ⟨b, i * 3 + 2, none⟩) hbb).trans c2
     refine wpOp_step rfl (fun K2 hK2 => ?_)
     go_simp
     exact hK2 _ _ (hK _ _ hS rfl (Below.refl _ _))
    ·
     have e1 : y 1 = _ := hd 1 rfl
     have e5 : y 5 = _ := hd 5 rfl
     obtain ⟨y, rfl⟩ := upd_at (y := y) (i := 1) e1
     obtain ⟨y, rfl⟩ := upd_at (y := y) (i := 5) e5
     dsimp [upd]
     refine wpOp_step rfl (fun K2 hK2 => ?_)
     go_simp
     refine (rAccepts_any m a A n k ⟨mo, la, ne⟩ ha HSF.out w10).mono ?_
     rintro e' w2 ⟨rfl, hb⟩
     rw [HAC.out]
     exact hK2 _ _ (hK _ _ (below_next hS hb) rfl hb)
    ·
     have e6 : y 6 = _ := hd 6 rfl
     obtain ⟨y, rfl⟩ := upd_at (y := y) (i := 6) e6
     dsimp [upd]
     refine wpOp_step rfl (fun K2 hK2 => ?_)
     go_simp
     exact hK2 _ _ (hK _ _ (below_next hS (below_box _ _ _)) ⟨_, rfl, Blk.new _ _ _⟩ (below_box _ _ _))
   ·
    intro y w10 f hS hd
    have e0 : y 0 = _ := hd 0 (by decide)
    obtain ⟨g, e7, hB⟩ := hd 7 (by decide)
    clear hd
    have hO10 : w10.ownsRow h 4 1 (.slice TA i tk) i (((LL.take i).map (accB a)).map Value.bool) := own_keep HO.out hS
    have hB10 : Below h w1 w10 := HB.out.trans (hS.mono (by have := HB.out.size; have := HH.out; omega))
    have hs10 : h ≤ w10.heap.size := by have := hB10.size; have := HH.out; omega
    have h1c : ∀ u ∈ [Value.bool (accB a ⟨mo, la, ne⟩)], u.oneCell' = true := by intro u hu; simp at hu; subst hu; rfl
    refine wpAny_one (i := 8) (by kernel_rfl) ?_
    refine wpOp_append_on rfl rfl _ _ 53 rfl h hs10 4 i0 (.bool false) 1 1 Try.underlying53 hi hz0 hz1 hz2 rfl (by decide) (.slice TA i tk) i _ e0 hO10 ⟨g, 0, none⟩ 1 1 [.bool (accB a ⟨mo, la, ne⟩)] e7 rfl hB.news h1c (by unfold maxLen; omega) (by omega) ?_
    intro v11 w11 hown hgr _
    rw [← HNX.out] at hown
    have HO11 := Lib.hid hown
    have HB11 : Hid (Below h w1 w11) := hB10.grown hgr (by have := hB10.size; have := HH.out; omega) (fun g hg => (hO10.lt g hg).1)
    clear hown hgr hO10 hB10 hs10 h1c hB
    refine wpAny_one (i := 9) (by kernel_rfl) ?_
    refine wpOp_step rfl (fun K2 hK2 => ?_)
    go_simp
    refine hK2 _ _ ?_
    clear hK2 K2 e0 e7
    refine wpAny_done (by kernel_rfl) ?_ _
    go_wp2_with fail
    exact ⟨⟨i + 1, by go_num, HI.out, HO11.out, HB11.out⟩, by have := HI.out; simp [intOf]; omega⟩
  ·
   have hie : i = LL.length := by omega
   subst hie
   have HA1 : Hid (Rok a rs LL (LL.map (accB a))) := by
    refine ⟨by simp, fun k s h1 h2 => ?_, fun k s h1 h2 => ?_⟩
    ·
     rw [List.getElem?_map, h1, Option.map_some, h2]
    ·
     rw [List.getElem?_map, h1, Option.map_some] at h2
     exact Alv.acc (Option.some.inj h2)
   rw [List.take_length] at HO
   have HOA : Hid (wr.ownsRow h 4 1 (.slice TA LL.length tk) LL.length ((LL.map (accB a)).map Value.bool)) := HO.out
   clear HO hi1 hlt HTR HCR
   go_wp2_with fail
   go_loopg [6] ((LL.map (accB a)).count false + 1) (fun gk s6 wx => ∃ (R : List Bool) (g : Bool), gk = R.count false + (if g then 1 else 0) ∧ s6 = .bool g ∧ Rok a rs LL R ∧ (g = false → ∀ i, i < LL.length → ClosedAt rs LL R i) ∧ wx.ownsRow h 4 1 (.slice TA LL.length tk) LL.length (R.map Value.bool) ∧ Below h w1 wx)
   case atStart => exact ⟨_, true, rfl, rfl, HA1.out, fun h => (by cases h), HOA.out, HB.out⟩
   case round =>
    clear HOA HB HA1
    obtain ⟨R, g, hgk, rfl, hrok, hcl, ho, hb⟩ := hrel
    have HRK := Lib.hid hrok
    have HO := Lib.hid ho
    have HB := Lib.hid hb
    clear hrok ho hb
    cases g with
    | false =>
     have HE := Lib.hid (HFIN.out R HRK.out (hcl rfl))
     have HE2 : Hid (RAlEnd a rs w (.returned (.slice TA LL.length tk)) wr) := by
      refine HEND.out TA tk R wr HE.out ?_ (HB1.out.trans (HB.out.mono (by have := HB1.out.size; have := HH.out; omega)))
      have hl := HRK.out.len
      have ho := HO.out
      rw [← hl] at ho
      exact own_boolAt ho
     go_wp2_with fail
     go_ret
     exact HE2.out
    | true =>
     clear hcl
     have HGK : Hid (gk = R.count false + 1) := hgk
     clear hgk
     go_wp2_with fail
     go_loopw [6, 7] (fun s6 x wx => ∃ (i : Nat) (R2 : List Bool) (g2 : Bool), x = .int .i64 i ∧ s6 = .bool g2 ∧ i ≤ LL.length ∧ Rok a rs LL R2 ∧ (g2 = true → R2.count false < R.count false) ∧ (g2 = false → R2 = R ∧ ∀ c, c < i → ClosedAt rs LL R c) ∧ wx.ownsRow h 4 1 (.slice TA LL.length tk) LL.length (R2.map Value.bool) ∧ Below h w1 wx) (fun _ x _ => LL.length - (intOf x).toNat)
     case atStart => exact ⟨0, R, false, rfl, rfl, Nat.zero_le _, HRK.out, fun h => (by cases h), fun _ => ⟨rfl, fun c hc => by omega⟩, HO.out, HB.out⟩
     case round =>
      clear HO HB HRK
      obtain ⟨i, R2, g2, rfl, rfl, hi1, hrok, hgt, hgf, ho, hb⟩ := hrel
      by_cases hlt : i < LL.length
      ·
       have HI := Lib.hid hlt
       have HRK := Lib.hid hrok
       have HGT := Lib.hid hgt
       have HGF := Lib.hid hgf
       have HO := Lib.hid ho
       have HB := Lib.hid hb
       have HLI : Hid (LL[i]? = some (LL[i]'hlt)) := List.getElem?_eq_getElem hlt
       have HSF : Hid ((LL[i]'hlt).fits) := (HSO.out _ (List.getElem_mem hlt)).fit hm.2
       clear hrok hgt hgf ho hb
       generalize LL[i]'hlt = si at *
       obtain ⟨mo, la, ne⟩ := si
       go_wp2_with fail
       go_loopw [6, 8] (fun s6 x wx => ∃ (kk : Nat) (R3 : List Bool) (g3 : Bool), x = .int .i64 kk ∧ s6 = .bool g3 ∧ kk ≤ n ∧ Rok a rs LL R3 ∧ (g3 = true → R3.count false < R.count false) ∧ (g3 = false → R3 = R ∧ (∀ c, c < i → ClosedAt rs LL R c) ∧ ∀ k' : Nat, k' < kk → (stepS rs ⟨mo, la, ne⟩ k').2 = true → ∀ j : Nat, LL[j]? = some (stepS rs ⟨mo, la, ne⟩ k').1 → R[j]? = some true → R[i]? = some true) ∧ wx.ownsRow h 4 1 (.slice TA LL.length tk) LL.length (R3.map Value.bool) ∧ Below h w1 wx) (fun _ x _ => n - (intOf x).toNat)
       case atStart => exact ⟨0, R2, g2, rfl, rfl, Nat.zero_le _, HRK.out, HGT.out, fun h => ⟨(HGF.out h).1, (HGF.out h).2, fun k' h => by omega⟩, HO.out, HB.out⟩
       case round =>
        clear HO HB HRK HGT HGF
        obtain ⟨kk, R3, g3, rfl, rfl, hk1, hrok, hgt, hgf, ho, hb⟩ := hrel
        have hR3 : i < R3.length := by rw [hrok.len]; exact hlt
        obtain ⟨rb, hrbe, hrb, hrc⟩ := own_cells ho (j := i) (x := .bool (R3[i]'hR3)) (by rw [List.getElem?_map, List.getElem?_eq_getElem hR3]; rfl)
        subst hrbe
        have HRI : Hid (R3[i]? = some (R3[i]'hR3)) := List.getElem?_eq_getElem hR3
        have HRK := Lib.hid hrok
        have HGT := Lib.hid hgt
        have HGF := Lib.hid hgf
        have HO := Lib.hid ho
        have HB := Lib.hid hb
        have HTR := Lib.hid (HT1.out.next (w' := wr) (by rw [HH.out]; exact hb))
        have HCR : Hid (StAt wr wr.heap.size (some ⟨b, 0, none⟩) LL) := (StAt.keep HC.out (by rw [HH.out]; exact hb)).more (by have := hb.size; omega)
        have HR3 := Lib.hid hR3
        clear hrok hgt hgf ho hb
        generalize R3[i]'hR3 = ri at *
        have t2 := HTR.out.t.cell 2
        simp only [List.getElem?_toArray, List.getElem?_cons_zero, List.getElem?_cons_succ] at t2
        have hin : (i : Int) < (LL.length : Int) := by omega
        have hi00 : (0 : Int) ≤ (i : Int) := by omega
        by_cases hlk : kk < n
        ·
         have HK := Lib.hid hlk
         cases ri with
         | true =>
          have HCA : Hid (g3 = false → R3 = R ∧ ∀ c, c < i + 1 → ClosedAt rs LL R c) := fun hg => by
           obtain ⟨e1, e2, _⟩ := HGF.out hg
           refine ⟨e1, fun c hc => ?_⟩
           rcases Nat.lt_or_ge c i with g | g
           ·
            exact e2 c g
           ·
            obtain rfl : c = i := by omega
            intro s _ k' _ _ j _ _
            rw [← e1]; exact HRI.out
          go_wp2_with fail
          exact ⟨⟨i + 1, R3, g3, by go_num, rfl, HI.out, HRK.out, HGT.out, HCA.out, HO.out, HB.out⟩, by have := HI.out; simp [intOf]; omega⟩
         | false =>
          obtain ⟨b', e', hbb, hc⟩ := HCR.out hpos
          obtain rfl : b = b' := by injection e' with e'; injection e'
          obtain ⟨c0, c1, c2⟩ := hc i hlt
          rw [(List.getElem?_eq_some_iff.1 HLI.out).2] at c0 c1 c2
          dsimp only at c0 c1 c2
          obtain ⟨sr, hsr⟩ : ∃ sr, stepS rs ⟨mo, la, ne⟩ kk = sr := ⟨_, rfl⟩
          have HSE := Lib.hid hsr
          clear hsr hc e'
          obtain ⟨⟨ta, tb, tc⟩, okb⟩ := sr
          go_upto_region 15 with fail
          refine wp_region_mid2 12 0 (by kernel_rfl) (fun y => (.agg #[.int .i64 m, .int .u8 a, .slice A n k]) :: (.pointer (some ⟨q, 0, none⟩)) :: (.slice none 0 0) :: (.slice (some ⟨b, 0, none⟩) LL.length lk) :: (.slice (some ⟨rb, 0, none⟩) LL.length tk) :: (.int .i64 ↑LL.length) :: (.bool g3) :: (.int .i64 ↑i) :: (.int .i64 ↑kk) :: y 10 :: u10 :: (.agg #[.int .i64 m, .int .u8 a, .slice A n k]) :: (.slice (some ⟨b, 0, none⟩) LL.length lk) :: (.slice (some ⟨h, 0, none⟩) 0 0) :: (.int .i64 ↑LL.length) :: (.slice (some ⟨b, 0, none⟩) LL.length lk) :: (.int .i64 ↑LL.length) :: (.bool false) :: u18 :: u19 :: u20 :: u21 :: u22 :: u23 :: u24 :: u25 :: u26 :: u27 :: u28 :: (.bool true) :: (.int .i64 ↑i) :: (.slice (some ⟨b, 0, none⟩) LL.length lk) :: (.int .i64 ↑LL.length) :: (.bool true) :: u34 :: u35 :: (.int .i64 ↑kk) :: (.pointer (some ⟨q, 2, none⟩)) :: (.slice A n k) :: (.int .i64 ↑n) :: (.bool true) :: (.bool true) :: (.slice (some ⟨rb, 0, none⟩) LL.length tk) :: (.int .i64 ↑i) :: (.pointer (some ⟨rb, i, none⟩)) :: (.bool false) :: (.bool true) :: (.bool true) :: u48 :: u49 :: y 7 :: y 0 :: y 1 :: y 2 :: y 3 :: y 4 :: y 5 :: y 6 :: y 8 :: y 9 :: u60 :: u61 :: u62 :: u63 :: u64 :: u65 :: u66 :: u67 :: u68 :: u69 :: u70 :: u71 :: undef :: []) (stS wr ((⟨ta, tb, tc⟩, okb) : St × Bool).1) (phiS wr (.agg #[.int .i64 m, .int .u8 a, .slice A n k]) (.slice (some ⟨b, 0, none⟩) LL.length lk) (.int .i64 i) (.pointer (some ⟨b, i * 3, none⟩)) (.agg #[.int .i64 mo, .int .i64 la, .int .u8 ne]) (.int .i64 kk) ((⟨ta, tb, tc⟩, okb) : St × Bool)) (fun i => match i with | 0 => u51 | 1 => u52 | 2 => u53 | 3 => u54 | 4 => u55 | 5 => u56 | 6 => u57 | 7 => u50 | 8 => u58 | 9 => u59 | 10 => u9 | _ => undef)
           (by kernel_rfl) (by kernel_rfl) (by kernel_rfl) (by kernel_rfl) ?_ [0, 1, 2, 3, 4, 5, 6, 7, 8, 9, 10, 11] (by kernel_rfl) ?_ ?_
          ·
           exact ⟨(Below.refl _ _).drew, fun h => by cases h⟩
          ·
           refine allCons ?_ (allCons ?_ (allCons ?_ (allCons ?_ (allCons ?_ (allCons ?_ (allCons ?_ (allCons ?_ (allCons ?_ (allCons ?_ (allCons ?_ (allCons ?_ allNil)))))))))))
           all_goals intro bl y w10 K3 hbi hS hd hK3
           ·
            have hS3 := HTR.out.next hS.1
            have q0 := hS3.t.cell 0
            have q1 := hS3.t.cell 1
            have q2 := hS3.t.cell 2
            simp only [List.getElem?_toArray, List.getElem?_cons_zero, List.getElem?_cons_succ] at q0 q1 q2
            refine wpOp_step rfl (fun K2 hK2 => ?_)
            go_simp
            exact hK2 _ _ (hK3 _ _ (stS_same hS (by decide) (Below.refl _ _)) rfl (fun _ _ h => h))
           ·
            refine wpOp_step rfl (fun K2 hK2 => ?_)
            go_simp
            exact hK2 _ _ (hK3 _ _ (stS_same hS (by decide) (Below.refl _ _)) rfl (fun _ _ h => h))
           ·
            refine wpOp_step rfl (fun K2 hK2 => ?_)
            go_simp
            exact hK2 _ _ (hK3 _ _ (stS_same hS (by decide) (Below.refl _ _)) rfl (fun _ _ h => h))
           ·
            have e1 : y 1 = _ := (hd 1 rfl).2
            have e2 : y 2 = _ := (hd 2 rfl).2
            obtain ⟨y, rfl⟩ := upd_at (y := y) (i := 1) e1
            obtain ⟨y, rfl⟩ := upd_at (y := y) (i := 2) e2
            dsimp [upd]
            refine wpOp_step rfl (fun K2 hK2 => ?_)
            go_simp
            exact hK2 _ _ (hK3 _ _ (stS_same hS (by decide) (Below.refl _ _)) rfl (fun _ _ h => h))
           ·
            have e3 : y 3 = _ := (hd 3 rfl).2
            obtain ⟨y, rfl⟩ := upd_at (y := y) (i := 3) e3
            dsimp [upd]
            have q0 := (hS.1.cell (p := ⟨b, i * 3, none⟩) hbb).trans c0
            have q1 := (hS.1.cell (p := ⟨b, i * 3 + 1, none⟩) hbb).trans c1
            have q2 := (hS.1.cell (p := ⟨b, i * 3 + 2, none⟩) hbb).trans c2
            refine wpOp_step rfl (fun K2 hK2 => ?_)
            go_simp
            exact hK2 _ _ (hK3 _ _ (stS_same hS (by decide) (Below.refl _ _)) rfl (fun _ _ h => h))
           ·
            refine wpOp_step rfl (fun K2 hK2 => ?_)
            go_simp
            exact hK2 _ _ (hK3 _ _ (stS_same hS (by decide) (Below.refl _ _)) rfl (fun _ _ h => h))
           ·
            have e0 : y 0 = _ := (hd 0 rfl).2
            have e4 : y 4 = _ := (hd 4 rfl).2
            have e5 : y 5 = _ := (hd 5 rfl).2
            obtain ⟨y, rfl⟩ := upd_at (y := y) (i := 0) e0
            obtain ⟨y, rfl⟩ := upd_at (y := y) (i := 4) e4
            obtain ⟨y, rfl⟩ := upd_at (y := y) (i := 5) e5
            dsimp [upd]
            have hS3 := HTR.out.next hS.1
            refine wpOp_step rfl (fun K2 hK2 => ?_)
            go_simp
            refine (rStep_any m a A n k rs ⟨mo, la, ne⟩ kk hn HSF.out (by omega) w10 hS3.r).mono ?_
            rw [HSE.out]
            rintro e' w2 ⟨rfl, hb⟩
            exact hK2 _ _ (hK3 _ _ (stS_same hS (by decide) hb) rfl (fun _ _ h => phiS_below hb h))
           ·
            have e6 : y 6 = _ := (hd 6 rfl).2
            obtain ⟨y, rfl⟩ := upd_at (y := y) (i := 6) e6
            dsimp [upd]
            refine wpOp_step rfl (fun K2 hK2 => ?_)
            go_simp
            exact hK2 _ _ (hK3 _ _ (stS_same hS (by decide) (Below.refl _ _)) rfl (fun _ _ h => h))
           ·
            have e7 : y 7 = _ := (hd 7 rfl).2
            obtain ⟨y, rfl⟩ := upd_at (y := y) (i := 7) e7
            dsimp [upd]
            refine wpOp_step rfl (fun K2 hK2 => ?_)
            go_simp
            exact hK2 _ _ (hK3 _ _ (stS_same hS (by decide) (Below.refl _ _)) rfl (fun _ _ h => h))
           ·
            have e7 : y 7 = _ := (hd 7 rfl).2
            obtain ⟨y, rfl⟩ := upd_at (y := y) (i := 7) e7
            dsimp [upd]
            refine wpOp_step rfl (fun K2 hK2 => ?_)
            go_simp
            exact hK2 _ _ (hK3 _ _ (stS_same hS (by decide) (Below.refl _ _)) rfl (fun _ _ h => h))
           ·
            refine wpOp_step rfl (fun K2 hK2 => ?_)
            go_simp
            exact hK2 _ _ (hK3 _ _ (stS_alloc hS hbi _) ⟨_, rfl, hS.1.size, _, _, _, Blk.new _ _ _⟩ (fun _ _ h => phiS_below (below_box _ _ _) h))
           ·
            have e8 : y 8 = .agg #[.int .i64 ((⟨ta, tb, tc⟩, okb) : St × Bool).1.mode, .int .i64 ((⟨ta, tb, tc⟩, okb) : St × Bool).1.last, .int .u8 ((⟨ta, tb, tc⟩, okb) : St × Bool).1.need] := (hd 8 rfl).2
            obtain ⟨hb10, g, e10, hg, za, zb, zc, hB⟩ := hd 10 rfl
            have hS2 := stS_store (v := undef) hS hb10 e10 hg hB
            obtain ⟨y, rfl⟩ := upd_at (y := y) (i := 8) e8
            obtain ⟨y, rfl⟩ := upd_at (y := y) (i := 10) e10
            dsimp [upd]
            have d0 := hB.cell 0
            have d1 := hB.cell 1
            have d2 := hB.cell 2
            have f0 := hB.free 0
            have f1 := hB.free 1
            have f2 := hB.free 2
            simp only [List.getElem?_toArray, List.getElem?_cons_zero, List.getElem?_cons_succ] at d0 d1 d2
            refine wpOp_step rfl (fun K2 hK2 => ?_)
            go_simp
            exact hK2 _ _ (hK3 undef _ hS2 trivial (fun _ _ hφ => phiS_store hφ))
          ·
           intro bl y w10 f hall hS hd
           have e9 : y 9 = _ := hd 9 (by decide)
           obtain ⟨_, g10, e10, hg10, hB10⟩ := hS.2 (hall 11 (by decide))
           have hb10 := hS.1
           clear hd hall hS
           obtain ⟨y, rfl⟩ := upd_at (y := y) (i := 9) e9
           obtain ⟨y, rfl⟩ := upd_at (y := y) (i := 10) e10
           dsimp [upd]
           refine wpAny_one (i := 12) (by kernel_rfl) ?_
           refine wpOp_step rfl (fun K2 hK2 => ?_)
           go_simp
           refine hK2 _ _ ?_
           clear hK2 K2 e9 e10
           refine wpAny_done (by kernel_rfl) ?_ _
           have HO10 := Lib.hid (own_keep HO.out hb10)
           have HB10 : Hid (Below h w1 w10) := HB.out.trans (hb10.mono (by have := HB.out.size; have := HH.out; omega))
           have HC10 : Hid (StAt w10 w10.heap.size (some ⟨b, 0, none⟩) LL) := (HCR.out.keep hb10).more hb10.size
           have d0 := hB10.cell 0
           have d1 := hB10.cell 1
           have d2 := hB10.cell 2
           simp only [List.getElem?_toArray, List.getElem?_cons_zero, List.getElem?_cons_succ] at d0 d1 d2
           clear hb10 hB10 hg10 c0 c1 c2 HTR HCR HO HB t2 hbb hrc
           cases okb with
           | false =>
            have HGN : Hid (g3 = false → R3 = R ∧ (∀ c, c < i → ClosedAt rs LL R c) ∧ ∀ k' : Nat, k' < kk + 1 → (stepS rs ⟨mo, la, ne⟩ k').2 = true → ∀ j : Nat, LL[j]? = some (stepS rs ⟨mo, la, ne⟩ k').1 → R[j]? = some true → R[i]? = some true) := fun hg => by
             obtain ⟨e1, e2, e3⟩ := HGF.out hg
             refine ⟨e1, e2, fun k' hk' h2 j hj hr => ?_⟩
             rcases Nat.lt_or_ge k' kk with g | g
             ·
              exact e3 k' g h2 j hj hr
             ·
              obtain rfl : k' = kk := by omega
              rw [HSE.out] at h2; cases h2
            go_wp2_with fail
            exact ⟨⟨kk + 1, R3, g3, by go_num, rfl, HK.out, HRK.out, HGT.out, HGN.out, HO10.out, HB10.out⟩, by have := HK.out; simp [intOf]; omega⟩
           | true =>
            have hmem : (⟨ta, tb, tc⟩ : St) ∈ LL := by
             have := HCL.out i _ HI.out HLI.out kk (by rw [hn]; exact HK.out) (by rw [HSE.out])
             rwa [HSE.out] at this
            obtain ⟨px, hpx, hpl⟩ := idx_mem hmem
            have hpl2 := (List.getElem?_eq_some_iff.1 hpl).1
            have HPL := Lib.hid hpl
            go_wp2_with fail
            refine (index_st (some ⟨b, 0, none⟩) LL.length lk LL ⟨ta, tb, tc⟩ w10 rfl HC10.out (by omega)).mono ?_
            rintro e w12 ⟨rfl, hb12⟩
            rw [hpx]
            have HO12 := Lib.hid (own_keep HO10.out hb12)
            have HB12 : Hid (Below h w1 w12) := HB10.out.trans (hb12.mono (by have := HB10.out.size; have := HH.out; omega))
            have hp3 : px < R3.length := by rw [HRK.out.len]; exact hpl2
            have HRP : Hid (R3[px]? = some (R3[px]'hp3)) := List.getElem?_eq_getElem hp3
            obtain ⟨rb', e', _, hpc⟩ := own_cells HO12.out (j := px) (x := .bool (R3[px]'hp3)) (by rw [List.getElem?_map, List.getElem?_eq_getElem hp3]; rfl)
            obtain rfl : rb = rb' := by injection e' with e'; injection e'
            obtain ⟨rb', e'', _, hic⟩ := own_cells HO12.out (j := i) (x := .bool false) (by rw [List.getElem?_map, HRI.out]; rfl)
            obtain rfl : rb = rb' := by injection e'' with e''; injection e''
            generalize R3[px]'hp3 = bq at *
            have hp0 : (0 : Int) ≤ (px : Int) := by omega
            have hp1 : (px : Int) < (LL.length : Int) := by omega
            clear hb12 HO10 HB10 HC10 d0 d1 d2 hpx hmem hpl e' e''
            cases bq with
            | false =>
             have HGN : Hid (g3 = false → R3 = R ∧ (∀ c, c < i → ClosedAt rs LL R c) ∧ ∀ k' : Nat, k' < kk + 1 → (stepS rs ⟨mo, la, ne⟩ k').2 = true → ∀ j : Nat, LL[j]? = some (stepS rs ⟨mo, la, ne⟩ k').1 → R[j]? = some true → R[i]? = some true) := fun hg => by
              obtain ⟨e1, e2, e3⟩ := HGF.out hg
              refine ⟨e1, e2, fun k' hk' h2 j hj hr => ?_⟩
              rcases Nat.lt_or_ge k' kk with g | g
              ·
               exact e3 k' g h2 j hj hr
              ·
               obtain rfl : k' = kk := by omega
               rw [HSE.out] at hj
               have h5 := nodup_idx HND.out hj
               have h6 := nodup_idx HND.out HPL.out
               have : j = px := by dsimp only at h5; omega
               rw [this, ← e1, HRP.out] at hr
               cases hr
             clear hic
             go_wp2_with fail
             exact ⟨⟨kk + 1, R3, g3, by go_num, rfl, HK.out, HRK.out, HGT.out, HGN.out, HO12.out, HB12.out⟩, by have := HK.out; simp [intOf]; omega⟩
            | true =>
             have HRN : Hid (Rok a rs LL (R3.set i true)) := HRK.out.set HLI.out (k := kk) (by rw [hn]; exact HK.out) (by rw [HSE.out]) (j := px) (by rw [HSE.out]; exact HPL.out) HRP.out
             have HCN : Hid ((R3.set i true).count false < R.count false) := by
              have h1 := cnt_set HRI.out
              unfold Hid
              cases hg : g3 with
              | true => have := HGT.out hg; omega
              | false => have := (HGF.out hg).1; rw [this] at h1 ⊢; exact h1
             obtain ⟨cur, hcur⟩ := own_blk HO12.out rfl
             have f0 := hcur.free i
             have HO13 := Lib.hid (own_setAt HO12.out HI.out (.bool true))
             have HB13 : Hid (Below h w1 (w12.setCell ⟨rb, i, none⟩ (.bool true))) := HB12.out.setCell (HO12.out.lt rb rfl).1 _
             clear hcur
             go_wp2_with fail
             exact ⟨⟨kk + 1, R3.set i true, true, by go_num, rfl, HK.out, HRN.out, fun _ => HCN.out, fun h => (by cases h), by rw [List.map_set]; exact HO13.out, HB13.out⟩, by have := HK.out; simp [intOf]; omega⟩
        ·
         have hkn : kk = n := by omega
         have HCA : Hid (g3 = false → R3 = R ∧ ∀ c, c < i + 1 → ClosedAt rs LL R c) := fun hg => by
          obtain ⟨e1, e2, e3⟩ := HGF.out hg
          refine ⟨e1, fun c hc => ?_⟩
          rcases Nat.lt_or_ge c i with g | g
          ·
           exact e2 c g
          ·
           obtain rfl : c = i := by omega
           intro s hs k' hk' h2 j hj hr
           rw [HLI.out] at hs
           cases hs
           exact e3 k' (by rw [hkn, ← hn]; exact hk') h2 j hj hr
         go_wp2_with fail
         exact ⟨⟨i + 1, R3, g3, by go_num, rfl, HI.out, HRK.out, HGT.out, HCA.out, HO.out, HB.out⟩, by have := HI.out; simp [intOf]; omega⟩
      ·
       have hie : i = LL.length := by omega
       have HRK := Lib.hid hrok
       have HGT := Lib.hid hgt
       have HGF := Lib.hid hgf
       have HO := Lib.hid ho
       have HB := Lib.hid hb
       clear hrok hgt hgf ho hb
       go_wp2_with fail
       go_roundg (R2.count false + (if g2 then 1 else 0))
       case measure =>
        have := HGK.out
        cases g2 with
        | true => have := HGT.out rfl; simp; omega
        | false => have := (HGF.out rfl).1; subst this; simp; omega
       case rel =>
        exact ⟨R2, g2, rfl, rfl, HRK.out, fun hg i' hi' => by
         obtain ⟨e1, e2⟩ := HGF.out hg
         rw [e1]; exact e2 i' (by omega), HO.out, HB.out⟩
end Go.Proofs.Ytpkdlljefkbmpaa
