/- Merged by program: Lm1a Lm1 -/
import Derived.Test.YtghjpblfneldcaaT7
import Derived.Test.YtghjpblfneldcaaT9
import Derived.Test.YtghjpblfneldcaaT8
import Derived.Test.YtghjpblfneldcaaQ15
import Derived.Test.YtghjpblfneldcaaQ22
import Derived.ProofKit
import Derived.OpenShut

/-! law06.TranslateMoreRules. -/
namespace Go.Proofs.Ytghjpblfneldcaa
open Go.RowKit Go.Maps
/-- A way through a table's rules is one with a rule more. -/
theorem edg_more {rs : List Rule} {x : Rule} {s : List Nat} {v u : Nat × Int} {k : Int} (h : edgP rs s v k = some u) : edgP (rs ++ [x]) s v k = some u ∧ cstR (rs ++ [x]) k = cstR rs k := by
  unfold edgP at h ⊢
  split at h
  · rename_i hc
    obtain ⟨⟨h1, h2⟩, h3, h4⟩ := hc
    have e : ruleOf (rs ++ [x]) k = ruleOf rs k := by
      unfold ruleOf
      obtain ⟨j, rfl⟩ : ∃ j : Nat, k = j := ⟨k.toNat, by omega⟩
      have hj : j < rs.length := by omega
      simp [List.getD, List.getElem?_append_left, hj]
    refine ⟨?_, by unfold cstR; rw [e]⟩
    rw [if_pos ⟨⟨h1, by simp; omega⟩, by rw [e]; exact h3, by rw [e]; exact h4⟩, e]
    exact h
  · cases h
theorem go_more {rs : List Rule} {x : Rule} {s : List Nat} : ∀ (ks : List Int) (v u : Nat × Int), goE (edgP rs s) v ks = some u → goE (edgP (rs ++ [x]) s) v ks = some u ∧ cstE (cstR (rs ++ [x])) ks = cstE (cstR rs) ks := by
  intro ks
  induction ks with
  | nil => intro v u h; exact ⟨h, rfl⟩
  | cons k r ih =>
    intro v u h
    obtain ⟨y, h1, h2⟩ := goE_cons.1 h
    obtain ⟨g1, g2⟩ := edg_more (x := x) h1
    obtain ⟨g3, g4⟩ := ih y u h2
    exact ⟨goE_cons.2 ⟨y, g1, g3⟩, by simp only [cstE, g2, g4]⟩
/-- With a rule more a text costs no more. -/
theorem cost_more {a : Int} {rs : List Rule} {x : Rule} {s : List Nat} {c d : Int} (h : CostR a rs s c) (h2 : CostR a (rs ++ [x]) s d) (h0 : 0 ≤ c) : 0 ≤ d ∧ d ≤ c := by
  obtain ⟨cs, ks, pl, er, hw, hc⟩ := h
  obtain ⟨cs2, ks2, pl2, er2, hw2, hd⟩ := h2
  rcases hc with ⟨rfl, rfl⟩ | ⟨_, rfl⟩
  · rcases hw with ⟨_, _, _, _, e⟩ | ⟨ht, ⟨hb, rfl, _, _⟩ | ⟨_, _, _, _, e⟩⟩
    · cases e
    · obtain ⟨u, hu, hf⟩ := hb.1
      obtain ⟨g1, g2⟩ := go_more (x := x) ks _ u hu
      have hgd : GdE (edgP (rs ++ [x]) s) (finP a s) (0, 0) ks := ⟨u, g1, hf⟩
      rcases hw2 with ⟨t, _⟩ | ⟨_, ⟨hb2, rfl, _, e2⟩ | ⟨hn, _⟩⟩
      · rw [ht] at t; cases t
      · rcases hd with ⟨_, rfl⟩ | ⟨e3, _⟩
        · have hle := (hb2.2 ks hgd).1
          rw [cellsK_len, cellsK_len, ← g2]
          omega
        · exact absurd e2 e3
      · exact absurd hgd (hn ks)
    · cases e
  · omega
theorem box_two6 (w : World) (r1 r2 : Array Value) {t1 t2 : TypeId} :
    Blk ((w.alloc (.cells r1 t1)).alloc (.cells r2 t2)) w.heap.size t1 r1 ∧ Blk ((w.alloc (.cells r1 t1)).alloc (.cells r2 t2)) (w.heap.size + 1) t2 r2 ∧ Below w.heap.size w ((w.alloc (.cells r1 t1)).alloc (.cells r2 t2)) := by
  have n2 := Blk.new (w.alloc (.cells r1 t1)) r2 t2
  have s : (w.alloc (.cells r1 t1)).heap.size = w.heap.size + 1 := by simp
  rw [s] at n2
  exact ⟨(Blk.new _ _ _).box, n2, ((Below.refl _ _).alloc (Nat.le_refl _) _).alloc (by simp) _⟩
set_option maxRecDepth 10000 in
set_option maxHeartbeats 4000000 in
theorem walk_more (bs dr : Int) (A : Option Addr) (n k : Nat) (XA : Option Addr) (xk : Nat) (xs : List Int) (PA : Option Addr) (np kp : Nat) (CA : Option Addr) (nc kc : Nat) (ps cs : List Int) (l r u0 u1 : Int) (w : World) (hW : RawMs w w.heap.size A n) (hbs : 0 ≤ bs ∧ bs < 256) (hdr : 0 ≤ dr ∧ dr < 256) (hX : Seq w w.heap.size XA xs) (hxs : ∀ z ∈ xs, 0 ≤ z ∧ z < 256) (hV : RawV w PA np CA nc ps cs l r u0 u1) :
    Calls Try.prog 11 #[.agg #[.int .u8 bs, .int .u8 dr, .slice A n k], .slice XA xs.length xk, .agg #[.slice PA np kp, .slice CA nc kc, .int .u8 l, .int .u8 r, .int .u8 u0, .int .u8 u1]] w fun e w' => e = .returned (.bool true) ∧ Below w.heap.size w w' := by
  obtain ⟨g, hg⟩ : ∃ g, w.heap.size = g := ⟨_, rfl⟩
  have hbx := box_two6 w #[.int .u8 bs, .int .u8 dr, .slice A n k] #[.slice PA np kp, .slice CA nc kc, .int .u8 l, .int .u8 r, .int .u8 u0, .int .u8 u1] (t1 := 24) (t2 := 75)
  have V0A : Hid (Blk ((w.alloc (.cells #[.int .u8 bs, .int .u8 dr, .slice A n k] 24)).alloc (.cells #[.slice PA np kp, .slice CA nc kc, .int .u8 l, .int .u8 r, .int .u8 u0, .int .u8 u1] 75)) g 24 #[.int .u8 bs, .int .u8 dr, .slice A n k]) := by
    unfold Hid; rw [← hg]; exact hbx.1
  have V0S : Hid (Blk ((w.alloc (.cells #[.int .u8 bs, .int .u8 dr, .slice A n k] 24)).alloc (.cells #[.slice PA np kp, .slice CA nc kc, .int .u8 l, .int .u8 r, .int .u8 u0, .int .u8 u1] 75)) (g + 1) 75 #[.slice PA np kp, .slice CA nc kc, .int .u8 l, .int .u8 r, .int .u8 u0, .int .u8 u1]) := by
    unfold Hid; rw [← hg]; exact hbx.2.1
  have V0B : Hid (Below w.heap.size w ((w.alloc (.cells #[.int .u8 bs, .int .u8 dr, .slice A n k] 24)).alloc (.cells #[.slice PA np kp, .slice CA nc kc, .int .u8 l, .int .u8 r, .int .u8 u0, .int .u8 u1] 75))) := hbx.2.2
  clear hbx
  have HW := Lib.hid hW
  have HX := Lib.hid hX
  have HXS := Lib.hid hxs
  have HV := Lib.hid hV
  clear hW hX hxs hV
  go_enter Try.func11, Try.ntmps11
  go_wp2_with fail
  generalize ((w.alloc (.cells #[.int .u8 bs, .int .u8 dr, .slice A n k] 24)).alloc (.cells #[.slice PA np kp, .slice CA nc kc, .int .u8 l, .int .u8 r, .int .u8 u0, .int .u8 u1] 75)) = V0 at *
  refine (sanity6_any _).mono ?_
  rintro e w1 ⟨rfl, hb1⟩
  have A1 := Lib.hid (V0A.out.keep hb1 (Blk.lt V0A.out))
  have S1 := Lib.hid (V0S.out.keep hb1 (Blk.lt V0S.out))
  have B1 : Hid (Below w.heap.size w w1) := below_next V0B.out hb1
  clear hb1 V0A V0S V0B
  have a0 := A1.out.cell 0
  have a1 := A1.out.cell 1
  have a2 := A1.out.cell 2
  simp only [List.getElem?_toArray, List.getElem?_cons_zero, List.getElem?_cons_succ] at a0 a1 a2
  go_wp2_with fail
  have HW1 : RawMs w1 w1.heap.size A n := HW.out.up B1.out
  refine (made_any w1 A n k bs dr HW1 hbs hdr).mono ?_
  rintro e w2 ⟨m, a, rs, v, rfl, hM, hG, hl10, hm12, ha, hb2⟩
  obtain ⟨A2, k2, rfl, hR2, hk2⟩ := (Made.b hM).rules
  have HMB := Lib.hid (Made.b hM)
  have S2 := Lib.hid (S1.out.keep hb2 (Blk.lt S1.out))
  have HG := Lib.hid hG
  have R2 := Lib.hid hR2
  have B2 : Hid (Below w.heap.size w w2) := below_next B1.out hb2
  have HB12 : Hid (Below w1.heap.size w1 w2) := hb2
  clear hb2 hM hG hR2 a0 a1 a2 HW1 A1 S1 HW
  obtain ⟨q, hq⟩ : ∃ q, w2.heap.size = q := ⟨_, rfl⟩
  go_upto_region 3 with fail
  have BA : Hid (Below w2.heap.size w2 (w2.alloc (.cells #[.int .i64 m, .int .u8 a, .slice A2 rs.length k2] 30))) := below_box _ _ _
  have T3 : Hid (Blk (w2.alloc (.cells #[.int .i64 m, .int .u8 a, .slice A2 rs.length k2] 30)) q 30 #[.int .i64 m, .int .u8 a, .slice A2 rs.length k2]) := by
    unfold Hid; rw [← hq]; exact Blk.new w2 _ _
  have R3 := Lib.hid (R2.out.up BA.out)
  have HM3 := Lib.hid (HMB.out.keep BA.out)
  have HB13 : Hid (Below w1.heap.size w1 (w2.alloc (.cells #[.int .i64 m, .int .u8 a, .slice A2 rs.length k2] 30))) := below_next HB12.out BA.out
  have S3 := Lib.hid (S2.out.keep BA.out (Blk.lt S2.out))
  have B3 : Hid (Below w.heap.size w (w2.alloc (.cells #[.int .i64 m, .int .u8 a, .slice A2 rs.length k2] 30))) := below_next B2.out BA.out
  generalize w2.alloc (.cells #[.int .i64 m, .int .u8 a, .slice A2 rs.length k2] 30) = w3 at *
  clear hq BA R2 B2 HMB S2
  have t0 := T3.out.cell 0
  have t1 := T3.out.cell 1
  have t2 := T3.out.cell 2
  simp only [List.getElem?_toArray, List.getElem?_cons_zero, List.getElem?_cons_succ] at t0 t1 t2
  have s0 := S3.out.cell 0
  have s1 := S3.out.cell 1
  have s2 := S3.out.cell 2
  have s3 := S3.out.cell 3
  have s4 := S3.out.cell 4
  have s5 := S3.out.cell 5
  simp only [List.getElem?_toArray, List.getElem?_cons_zero, List.getElem?_cons_succ] at s0 s1 s2 s3 s4 s5
  have hrs : 1 ≤ rs.length := by
    have := HG.out.1
    unfold numsB at this
    simp only [Bool.and_eq_true, decide_eq_true_eq] at this
    omega
  have HFT := Lib.hid R3.out.fit
  obtain ⟨lo, hlo⟩ : ∃ lo, w1.heap.size = lo := ⟨_, rfl⟩
  rw [hlo] at HM3
  have HLO3 : Hid (lo ≤ w3.heap.size) := by have h2 := HB13.out.size; unfold Hid; omega
  have HV3 := Lib.hid (HV.out.up B3.out)
  clear hlo HB13 HV
  have hql : q < w3.heap.size := Blk.lt T3.out
  have hgl : g + 1 < w3.heap.size := Blk.lt S3.out
  have hlo3 : lo ≤ w3.heap.size := HLO3.out
  refine wp_region_mid2 16 0 (by kernel_rfl) (fun y => (Value.agg #[Value.int IntKind.u8 bs, Value.int IntKind.u8 dr, Value.slice A n k]) :: (Value.slice XA xs.length xk) :: (Value.agg #[Value.slice PA np kp, Value.slice CA nc kc, Value.int IntKind.u8 l, Value.int IntKind.u8 r, Value.int IntKind.u8 u0, Value.int IntKind.u8 u1]) :: (Value.pointer (some ⟨g, 0, none⟩)) :: undef :: (Value.pointer (some ⟨g + 1, 0, none⟩)) :: (Value.bool false) :: (Value.bool true) :: (Value.pointer (some ⟨q, 0, none⟩)) :: y 15 :: undef :: undef :: undef :: undef :: undef :: undef :: (Value.bool true) :: (Value.agg #[Value.int IntKind.u8 bs, Value.int IntKind.u8 dr, Value.slice A n k]) :: (Value.agg #[Value.int IntKind.i64 m, Value.int IntKind.u8 a, Value.slice A2 rs.length k2]) :: y 0 :: y 1 :: y 2 :: y 3 :: y 4 :: y 5 :: y 6 :: y 7 :: y 8 :: y 9 :: y 10 :: y 11 :: y 12 :: y 13 :: y 14 :: undef :: undef :: undef :: undef :: undef :: undef :: undef :: undef :: undef :: undef :: undef :: undef :: undef :: undef :: undef :: undef :: undef :: undef :: undef :: undef :: undef :: undef :: undef :: undef :: undef :: undef :: undef :: undef :: undef :: undef :: undef :: undef :: undef :: undef :: undef :: undef :: undef :: undef :: undef :: undef :: undef :: []) (SH w3 lo rs m a) (phiHw w3 [some (.pointer (some ⟨q, 0, none⟩)), some (.int .i64 m), some (.pointer (some ⟨q, 1, none⟩)), some (.int .u8 a), none, some (.pointer (some ⟨q, 2, none⟩)), some (.slice A2 rs.length k2), none, some (.agg #[.slice PA np kp, .slice CA nc kc, .int .u8 l, .int .u8 r, .int .u8 u0, .int .u8 u1]), some (.pointer (some ⟨q, 0, none⟩)), some (.int .i64 m), none, none, none, none]) (fun i => match i with | 0 => undef | 1 => undef | 2 => undef | 3 => undef | 4 => undef | 5 => undef | 6 => undef | 7 => undef | 8 => undef | 9 => undef | 10 => undef | 11 => undef | 12 => undef | 13 => undef | 14 => undef | 15 => undef | _ => undef)
    (by kernel_rfl) (by kernel_rfl) (by kernel_rfl) (by kernel_rfl) ?_ [0, 1, 2, 3, 4, 5, 6, 7, 8, 9, 10, 11, 12, 13, 14, 15] (by kernel_rfl) ?_ ?_
  · exact SH.start
  · refine allCons ?_ (allCons ?_ (allCons ?_ (allCons ?_ (allCons ?_ (allCons ?_ (allCons ?_ (allCons ?_ (allCons ?_ (allCons ?_ (allCons ?_ (allCons ?_ (allCons ?_ (allCons ?_ (allCons ?_ (allCons ?_ (allNil))))))))))))))))
    all_goals intro bl y w10 K3 hbi hS hd hK3
    · refine wpOp_step rfl (fun K2 hK2 => ?_)
      go_simp
      exact hK2 _ _ (hK3 _ _ (hS.same (by decide) (Below.refl _ _)) rfl (fun _ _ h => h))
    · have e0 : y 0 = _ := (hd 0 rfl).2
      obtain ⟨y, rfl⟩ := upd_at (y := y) (i := 0) e0
      dsimp [upd]
      have q0 := (hS.blw.cell (p := ⟨q, 0, none⟩) hql).trans t0
      refine wpOp_step rfl (fun K2 hK2 => ?_)
      go_simp
      exact hK2 _ _ (hK3 _ _ (hS.same (by decide) (Below.refl _ _)) rfl (fun _ _ h => h))
    · refine wpOp_step rfl (fun K2 hK2 => ?_)
      go_simp
      exact hK2 _ _ (hK3 _ _ (hS.same (by decide) (Below.refl _ _)) rfl (fun _ _ h => h))
    · have e2 : y 2 = _ := (hd 2 rfl).2
      obtain ⟨y, rfl⟩ := upd_at (y := y) (i := 2) e2
      dsimp [upd]
      have q1 := (hS.blw.cell (p := ⟨q, 1, none⟩) hql).trans t1
      refine wpOp_step rfl (fun K2 hK2 => ?_)
      go_simp
      exact hK2 _ _ (hK3 _ _ (hS.same (by decide) (Below.refl _ _)) rfl (fun _ _ h => h))
    · refine wpOp_step rfl (fun K2 hK2 => ?_)
      go_simp
      exact hK2 _ _ (hK3 _ _ (hS.at4 ⟨_, _, [], rfl, World.ownsRow_lit w10 #[] 0 hS.blw.size (by decide) rfl, RulesW.nil⟩ (below_box _ _ _)) trivial (fun _ _ h => phiHw_below (below_box _ _ _) h))
    · refine wpOp_step rfl (fun K2 hK2 => ?_)
      go_simp
      exact hK2 _ _ (hK3 _ _ (hS.same (by decide) (Below.refl _ _)) rfl (fun _ _ h => h))
    · have e5 : y 5 = _ := (hd 5 rfl).2
      obtain ⟨y, rfl⟩ := upd_at (y := y) (i := 5) e5
      dsimp [upd]
      have q2 := (hS.blw.cell (p := ⟨q, 2, none⟩) hql).trans t2
      refine wpOp_step rfl (fun K2 hK2 => ?_)
      go_simp
      exact hK2 _ _ (hK3 _ _ (hS.same (by decide) (Below.refl _ _)) rfl (fun _ _ h => h))
    · have e6 : y 6 = _ := (hd 6 rfl).2
      refine wpOp_append_rules rfl rfl (.tmp 23) (.tmp 25) rfl w3.heap.size lo lo (y 4) (.slice A2 rs.length k2) [] rs rfl (hS.c4 (hd 4 rfl).1 hbi) e6 (HM3.out.keep hS.blw) (by show 0 + rs.length ≤ 1000; omega) (by omega) hS.blw.size ?_
      intro v' w' h1 ho
      exact hK3 _ _ (hS.at7 hbi h1 (ho.below hS.blw.size)) trivial (fun _ _ h => phiHw_onto ho h)
    · have z0 := (hS.blw.cell (p := ⟨g + 1, 0, none⟩) hgl).trans s0
      have z1 := (hS.blw.cell (p := ⟨g + 1, 1, none⟩) hgl).trans s1
      have z2 := (hS.blw.cell (p := ⟨g + 1, 2, none⟩) hgl).trans s2
      have z3 := (hS.blw.cell (p := ⟨g + 1, 3, none⟩) hgl).trans s3
      have z4 := (hS.blw.cell (p := ⟨g + 1, 4, none⟩) hgl).trans s4
      have z5 := (hS.blw.cell (p := ⟨g + 1, 5, none⟩) hgl).trans s5
      refine wpOp_step rfl (fun K2 hK2 => ?_)
      go_simp
      exact hK2 _ _ (hK3 _ _ (hS.same (by decide) (Below.refl _ _)) rfl (fun _ _ h => h))
    · refine wpOp_step rfl (fun K2 hK2 => ?_)
      go_simp
      exact hK2 _ _ (hK3 _ _ (hS.same (by decide) (Below.refl _ _)) rfl (fun _ _ h => h))
    · have e9 : y 9 = _ := (hd 9 rfl).2
      obtain ⟨y, rfl⟩ := upd_at (y := y) (i := 9) e9
      dsimp [upd]
      have q0 := (hS.blw.cell (p := ⟨q, 0, none⟩) hql).trans t0
      refine wpOp_step rfl (fun K2 hK2 => ?_)
      go_simp
      exact hK2 _ _ (hK3 _ _ (hS.same (by decide) (Below.refl _ _)) rfl (fun _ _ h => h))
    · have h7 := (hd 7 rfl).1
      have e8 : y 8 = _ := (hd 8 rfl).2
      have e10 : y 10 = _ := (hd 10 rfl).2
      obtain ⟨y, rfl⟩ := upd_at (y := y) (i := 8) e8
      obtain ⟨y, rfl⟩ := upd_at (y := y) (i := 10) e10
      dsimp [upd]
      refine wpOp_step rfl (fun K2 hK2 => ?_)
      go_simp
      obtain ⟨⟨v1, v2⟩, ⟨v3, v4⟩, ⟨v5, v6, v7, v8⟩, v9, v10⟩ := HV3.out.up hS.blw
      refine (rule_any w10 PA CA np nc kp kc ps cs l r u0 u1 m v1 v2 v3 v4 v5 v6 v7 v8 hm12 v9 v10).mono ?_
      rintro e' w' ⟨v, x, rfl, hr, hf, _, _, hb⟩
      exact hK2 _ _ (hK3 _ _ (hS.at11 h7 hbi (hr.less (Nat.le_trans hlo3 hS.blw.size)) hf hb) trivial (fun _ _ h => phiHw_below hb h))
    · have h11 := (hd 11 rfl).1
      have n13 : bl 13 = false := by cases e : bl 13 with | false => rfl | true => rw [hS.k13 e] at hbi; cases hbi
      obtain ⟨x, ⟨A', k', e11, hs⟩, hf⟩ := hS.c11 h11 n13
      obtain ⟨y, rfl⟩ := upd_at (y := y) (i := 11) e11
      dsimp [upd]
      refine wpOp_step rfl (fun K2 hK2 => ?_)
      go_simp
      exact hK2 _ _ (hK3 _ _ (hS.at12 h11 hbi (NewR.lit (RulesW.nil.snoc hs hf)) hf (below_box _ _ _)) trivial (fun _ _ h => phiHw_below (below_box _ _ _) h))
    · have h12 := (hd 12 rfl).1
      have h7 := (hd 7 rfl).1
      obtain ⟨x, hN, hf⟩ := hS.c12 h12 hbi
      refine wpOp_append_made rfl rfl (.tmp 26) (.tmp 31) rfl w3.heap.size lo (y 7) (y 12) rs [x] rfl (hS.c7 h7 hbi) rfl hN (by show rs.length + 1 ≤ 1000; omega) (by show 0 < 1; omega) hS.blw.size ?_
      intro v' w' h1 ho
      exact hK3 _ _ (hS.at13 h12 hbi h1 hf (ho.below hS.blw.size)) trivial (fun _ _ h => phiHw_onto ho h)
    · have h13 := (hd 13 rfl).1
      obtain ⟨x, hM, hf⟩ := hS.c13 h13
      obtain ⟨A', k', e13, _⟩ := hM.rules
      rw [show (rs ++ [x]).length = rs.length + 1 from by simp] at e13
      have e1 : y 1 = _ := (hd 1 rfl).2
      have e3 : y 3 = _ := (hd 3 rfl).2
      obtain ⟨y, rfl⟩ := upd_at (y := y) (i := 1) e1
      obtain ⟨y, rfl⟩ := upd_at (y := y) (i := 3) e3
      obtain ⟨y, rfl⟩ := upd_at (y := y) (i := 13) e13
      dsimp [upd]
      refine wpOp_step rfl (fun K2 hK2 => ?_)
      go_simp
      exact hK2 _ _ (hK3 _ _ (hS.at14 (v := .agg #[.int .i64 m, .int .u8 (a), .slice A' (rs.length + 1) k']) h13 (by simp [upd])) trivial (fun _ _ h => h))
    · refine wpOp_step rfl (fun K2 hK2 => ?_)
      go_simp
      exact hK2 _ _ (hK3 _ _ (hS.same (by decide) (below_box _ _ _)) ⟨_, rfl, hS.blw.size, Blk.new _ _ _⟩ (fun _ _ h => phiHw_below (below_box _ _ _) h))
  · intro bl y w10 f hall hS hd
    obtain ⟨x, hMx, hfx⟩ := hS.c13 (hall 13 (by decide))
    obtain ⟨A3, k3, e13, _, _⟩ := hMx.rules
    rw [show (rs ++ [x]).length = rs.length + 1 from by simp] at e13
    have e14 := hS.c14 (hall 14 (by decide))
    rw [e13] at e14 hMx
    obtain ⟨g9, e15, hg9, hB9⟩ := hd 15 (by decide)
    have hbl := hS.blw
    clear hd hall hS e13
    obtain ⟨y, rfl⟩ := upd_at (y := y) (i := 14) e14
    obtain ⟨y, rfl⟩ := upd_at (y := y) (i := 15) e15
    dsimp [upd]
    have d0 := hB9.cell 0
    have d1 := hB9.cell 1
    have d2 := hB9.cell 2
    have f0 := hB9.free 0
    have f1 := hB9.free 1
    have f2 := hB9.free 2
    simp only [List.getElem?_toArray, List.getElem?_cons_zero, List.getElem?_cons_succ] at d0 d1 d2
    refine wpAny_one (i := 16) (by kernel_rfl) ?_
    refine wpOp_step rfl (fun K2 hK2 => ?_)
    go_simp
    refine hK2 _ _ ?_
    clear hK2 K2 e14 e15 d0 d1 d2 f0 f1 f2
    refine wpAny_done (by kernel_rfl) ?_ _
    obtain ⟨yo, rfl⟩ : ∃ yo : Nat → Value, yo = y := ⟨_, rfl⟩
    have hM1 := hMx.set hB9 (by decide) (i := 0) (.int .i64 m)
    have hB1 := hB9.set 0 (.int .i64 m)
    have hM2 := hM1.set hB1 (by decide) (i := 1) (.int .u8 a)
    have hB2 := hB1.set 1 (.int .u8 a)
    have hM3 := hM2.set hB2 (by decide) (i := 2) (.slice A3 (rs.length + 1) k3)
    have hB3 := hB2.set 2 (.slice A3 (rs.length + 1) k3)
    obtain ⟨A3', k3', e3, hR5, hk5⟩ := hM3.rules
    obtain ⟨rfl, rfl⟩ : A3 = A3' ∧ k3 = k3' := by injection e3 with h1 h2 h3; exact ⟨h1, h3⟩
    have hb5 : Below w3.heap.size w3 (((w10.setCell ⟨g9, 0, none⟩ (.int .i64 m)).setCell ⟨g9, 1, none⟩ (.int .u8 a)).setCell ⟨g9, 2, none⟩ (.slice A3 (rs.length + 1) k3)) := ((hbl.setCell hg9 _).setCell hg9 _).setCell hg9 _
    have T5 := Lib.hid (T3.out.keep hb5 T3.out.lt)
    have R5 := Lib.hid (R3.out.up hb5)
    have B5 : Hid (Below w.heap.size w (((w10.setCell ⟨g9, 0, none⟩ (.int .i64 m)).setCell ⟨g9, 1, none⟩ (.int .u8 a)).setCell ⟨g9, 2, none⟩ (.slice A3 (rs.length + 1) k3))) := below_next B3.out hb5
    have U5 := Lib.hid hR5
    have HB5 : Hid (Blk (((w10.setCell ⟨g9, 0, none⟩ (.int .i64 m)).setCell ⟨g9, 1, none⟩ (.int .u8 a)).setCell ⟨g9, 2, none⟩ (.slice A3 (rs.length + 1) k3)) g9 30 #[.int .i64 m, .int .u8 a, .slice A3 (rs.length + 1) k3]) := hB3
    clear hMx hM1 hM2 hM3 hB9 hB1 hB2 hB3 hR5 hb5 hbl hg9 e3 T3 R3 B3 HM3 S3 HV3 HLO3 t0 t1 t2 s0 s1 s2 s3 s4 s5 hql hgl hlo3
    generalize ((w10.setCell ⟨g9, 0, none⟩ (.int .i64 m)).setCell ⟨g9, 1, none⟩ (.int .u8 a)).setCell ⟨g9, 2, none⟩ (.slice A3 (rs.length + 1) k3) = w5 at *
    have hn' : (rs ++ [x]).length = rs.length + 1 := by simp
    rw [hn'] at hk5
    have t0 := T5.out.cell 0
    have t1 := T5.out.cell 1
    have t2 := T5.out.cell 2
    have d0 := HB5.out.cell 0
    have d1 := HB5.out.cell 1
    have d2 := HB5.out.cell 2
    simp only [List.getElem?_toArray, List.getElem?_cons_zero, List.getElem?_cons_succ] at t0 t1 t2 d0 d1 d2
    go_wp2_with fail
    refine (rValid_any A3 (rs.length + 1) k3 m a (rs ++ [x]) w5 hn' U5.out (by omega) ha).mono ?_
    rintro e w6 ⟨rfl, hb6⟩
    have T6 := Lib.hid (T5.out.keep hb6 T5.out.lt)
    have R6 := Lib.hid (R5.out.up hb6)
    have U6 := Lib.hid (U5.out.up hb6)
    have HB6 := Lib.hid (HB5.out.keep hb6 HB5.out.lt)
    have B6 : Hid (Below w.heap.size w w6) := below_next B5.out hb6
    clear hb6 T5 R5 U5 HB5 B5 t0 t1 t2 d0 d1 d2
    cases hvl : validB m a (rs ++ [x]) with
    | false =>
      go_wp2_with fail
      go_ret
      exact ⟨rfl, B6.out⟩
    | true =>
      have HGX := Lib.hid (valid_iff.1 hvl)
      clear hvl
      have t0 := T6.out.cell 0
      have t1 := T6.out.cell 1
      have t2 := T6.out.cell 2
      simp only [List.getElem?_toArray, List.getElem?_cons_zero, List.getElem?_cons_succ] at t0 t1 t2
      go_wp2_with fail
      refine (text3_any m a A2 rs.length k2 rs w6 rfl R6.out HG.out (by omega) (by omega) ha XA xs.length xk xs rfl (HX.out.up B6.out) HXS.out).mono ?_
      rintro e w7 ⟨S, sb, rfl, hs, hb7⟩
      have T7 := Lib.hid (T6.out.keep hb7 T6.out.lt)
      have R7 := Lib.hid (R6.out.up hb7)
      have U7 := Lib.hid (U6.out.up hb7)
      have HB7 := Lib.hid (HB6.out.keep hb7 HB6.out.lt)
      have B7 : Hid (Below w.heap.size w w7) := below_next B6.out hb7
      clear hb7 T6 R6 U6 HB6 B6 t0 t1 t2
      have t0 := T7.out.cell 0
      have t1 := T7.out.cell 1
      have t2 := T7.out.cell 2
      simp only [List.getElem?_toArray, List.getElem?_cons_zero, List.getElem?_cons_succ] at t0 t1 t2
      go_wp2_with fail
      refine (spelled_any m a A2 rs.length k2 rs w7 rfl R7.out (by omega) (by omega) XA xs.length xk xs rfl (HX.out.up B7.out) HXS.out).mono ?_
      rintro e w8 ⟨S2, rfl, hs2, hb8⟩
      have hbx := below_box w8 #[.string S, .string S2] 80
      have HT8 := Lib.hid (Blk.new w8 #[.string S, .string S2] 80)
      have T8 := Lib.hid (T7.out.keep (below_next hb8 hbx) T7.out.lt)
      have R8 := Lib.hid (R7.out.up (below_next hb8 hbx))
      have U8 := Lib.hid (U7.out.up (below_next hb8 hbx))
      have HB8 := Lib.hid (HB7.out.keep (below_next hb8 hbx) HB7.out.lt)
      have B8 : Hid (Below w.heap.size w (w8.alloc (.cells #[.string S, .string S2] 80))) := below_next B7.out (below_next hb8 hbx)
      clear hbx hb8 T7 R7 U7 HB7 B7 t0 t1 t2
      obtain ⟨z, hz⟩ : ∃ z, w8.heap.size = z := ⟨_, rfl⟩
      rw [hz] at HT8
      dsimp only
      go_upto_region 8 with fail
      generalize w8.alloc (.cells #[.string S, .string S2] 80) = V at *
      clear hz
      obtain ⟨HT1, HU1⟩ : Hid (∀ W, Below V.heap.size V W → TbAt m a A2 rs.length k2 rs W) ∧ Hid (∀ W, Below V.heap.size V W → TbAt m a A3 (rs.length + 1) k3 (rs ++ [x]) W) :=
        ⟨fun W hb => ⟨R8.out.up hb, HG.out, rfl, by omega, by omega, ha, hk2⟩, fun W hb => ⟨U8.out.up hb, HGX.out, hn', by omega, by omega, ha, hk5⟩⟩
      have HCS : Hid (∀ St : ByteArray, St.size ≤ 16000 → ∃ c d : Int, (0 ≤ c → 0 ≤ d ∧ d ≤ c) ∧ (∀ W, Below V.heap.size V W → Calls Try.prog 33 #[.agg #[.int .i64 m, .int .u8 a, .slice A2 rs.length k2], .string St] W fun e w' => e = .returned (.int .i64 c) ∧ Below W.heap.size W w') ∧
          (∀ W, Below V.heap.size V W → Calls Try.prog 33 #[.agg #[.int .i64 m, .int .u8 a, .slice A3 (rs.length + 1) k3], .string St] W fun e w' => e = .returned (.int .i64 d) ∧ Below W.heap.size W w')) := fun St hst => by
        obtain ⟨c, hc⟩ := cost_ex HG.out (bytes St)
        obtain ⟨d, hd⟩ := cost_ex HGX.out (bytes St)
        exact ⟨c, d, fun h0 => cost_more hc hd h0, fun W hb => cost6_any _ _ _ _ _ _ _ _ W (HT1.out W hb) (by omega) hc, fun W hb => cost6_any _ _ _ _ _ _ _ _ W (HU1.out W hb) (by omega) hd⟩
      have HQL := Lib.hid T8.out.lt
      have HGL := Lib.hid HB8.out.lt
      have HZL := Lib.hid HT8.out.lt
      clear HT1 HU1 R8 U8 HG HGX HX HXS HFT hn' hk5 hk2 hfx
      go_wp2_with fail
      go_loopw [13] (fun x wr => ∃ i : Nat, x = .int .i64 i ∧ i ≤ 2 ∧ Below V.heap.size V wr) (fun x _ => 2 - (intOf x).toNat)
      case atStart => exact ⟨0, rfl, by omega, Below.refl _ _⟩
      case round =>
        obtain ⟨i, rfl, hi2, hb⟩ := hrel
        have HW := Lib.hid hb
        clear hb
        by_cases hlt : i < 2
        · obtain ⟨St, hcell, hst⟩ : ∃ St : ByteArray, wr.cell? ⟨z, i, none⟩ = some (.string St) ∧ St.size ≤ 16000 := by
            have c0 := (HW.out.cell (p := ⟨z, 0, none⟩) HZL.out).trans (HT8.out.cell 0)
            have c1 := (HW.out.cell (p := ⟨z, 1, none⟩) HZL.out).trans (HT8.out.cell 1)
            rcases (show i = 0 ∨ i = 1 by omega) with rfl | rfl
            · exact ⟨S, c0, hs⟩
            · exact ⟨S2, c1, by omega⟩
          obtain ⟨c, d, hcd, hC, hD⟩ := HCS.out St hst
          have hi0 : (0 : Int) ≤ (i : Int) := by omega
          have hil : (i : Int) < 2 := by omega
          have T9 := Lib.hid (T8.out.keep HW.out T8.out.lt)
          have HB9 := Lib.hid (HB8.out.keep HW.out HB8.out.lt)
          have HC := Lib.hid (fun W hb => hC W (below_next HW.out hb))
          have HD := Lib.hid (fun W hb => hD W (below_next HW.out hb))
          clear hC hD HCS
          have t0 := T9.out.cell 0
          have t1 := T9.out.cell 1
          have t2 := T9.out.cell 2
          have d0 := HB9.out.cell 0
          have d1 := HB9.out.cell 1
          have d2 := HB9.out.cell 2
          simp only [List.getElem?_toArray, List.getElem?_cons_zero, List.getElem?_cons_succ] at t0 t1 t2 d0 d1 d2
          have HQ9 : Hid (q < wr.heap.size) := T9.out.lt
          have HG9 : Hid (g9 < wr.heap.size) := HB9.out.lt
          have HZ9 : Hid (z < wr.heap.size) := Nat.lt_of_lt_of_le HZL.out HW.out.size
          go_upto_region 11 with fail
          refine wp_region_head 10 1 (by kernel_rfl) (fun y => (Value.agg #[Value.int IntKind.u8 bs, Value.int IntKind.u8 dr, Value.slice A n k]) :: (Value.slice XA xs.length xk) :: (Value.agg #[Value.slice PA np kp, Value.slice CA nc kc, Value.int IntKind.u8 l, Value.int IntKind.u8 r, Value.int IntKind.u8 u0, Value.int IntKind.u8 u1]) :: (Value.pointer (some ⟨g, 0, none⟩)) :: undef :: (Value.pointer (some ⟨g + 1, 0, none⟩)) :: u6 :: (Value.bool true) :: (Value.pointer (some ⟨q, 0, none⟩)) :: (Value.pointer (some ⟨g9, 0, none⟩)) :: (Value.string S) :: (Value.bool sb) :: (Value.pointer (some ⟨z, 0, none⟩)) :: (Value.int IntKind.i64 ↑i) :: u14 :: u15 :: (Value.bool true) :: (Value.agg #[Value.int IntKind.u8 bs, Value.int IntKind.u8 dr, Value.slice A n k]) :: (Value.agg #[Value.int IntKind.i64 m, Value.int IntKind.u8 a, Value.slice A2 rs.length k2]) :: (yo 0) :: (yo 1) :: (yo 2) :: (yo 3) :: (yo 4) :: (yo 5) :: (yo 6) :: (yo 7) :: (yo 8) :: (yo 9) :: (yo 10) :: (yo 11) :: (yo 12) :: (yo 13) :: (Value.agg #[Value.int IntKind.i64 m, Value.int IntKind.u8 a, Value.slice A3 (rs.length + 1) k3]) :: (Value.agg #[Value.int IntKind.i64 m, Value.int IntKind.u8 a, Value.slice A3 (rs.length + 1) k3]) :: (Value.bool true) :: (Value.bool false) :: undef :: (Value.tuple #[Value.string S, Value.bool sb]) :: (Value.agg #[Value.int IntKind.i64 m, Value.int IntKind.u8 a, Value.slice A2 rs.length k2]) :: (Value.slice XA xs.length xk) :: (Value.tuple #[Value.string S, Value.bool sb]) :: (Value.string S) :: (Value.bool sb) :: (Value.string S) :: (Value.agg #[Value.int IntKind.i64 m, Value.int IntKind.u8 a, Value.slice A2 rs.length k2]) :: (Value.slice XA xs.length xk) :: (Value.string S2) :: (Value.agg #[Value.string S, Value.string S2]) :: (Value.int IntKind.i64 ↑i) :: (Value.bool true) :: u51 :: u52 :: y 0 :: y 1 :: y 2 :: y 3 :: y 4 :: y 5 :: y 6 :: y 7 :: y 8 :: y 9 :: u63 :: u64 :: u65 :: u66 :: u67 :: u68 :: u69 :: u70 :: u71 :: u72 :: u73 :: undef :: [])
            (fun _ w' => Below wr.heap.size wr w') (phiP [pv (.agg #[.int .i64 m, .int .u8 a, .slice A2 rs.length k2]), pv (.int .i64 i), pv (.pointer (some ⟨z, i, none⟩)), pv (.string St), pv (.int .i64 c), pv (.agg #[.int .i64 m, .int .u8 a, .slice A3 (rs.length + 1) k3]), pv (.int .i64 i), pv (.pointer (some ⟨z, i, none⟩)), pv (.string St), pv (.int .i64 d)]) (fun i => match i with | 0 => u53 | 1 => u54 | 2 => u55 | 3 => u56 | 4 => u57 | 5 => u58 | 6 => u59 | 7 => u60 | 8 => u61 | 9 => u62 | _ => undef)
            (by kernel_rfl) (by kernel_rfl) (by kernel_rfl) (by kernel_rfl) (fun i v wa wb h hb => phiP_keep (stay_cons (pv_st) (stay_cons (pv_st) (stay_cons (pv_st) (stay_cons (pv_st) (stay_cons (pv_st) (stay_cons (pv_st) (stay_cons (pv_st) (stay_cons (pv_st) (stay_cons (pv_st) (stay_cons (pv_st) stay_nil)))))))))) h hb) (Below.refl _ _).drew [0, 1, 2, 3, 4, 5, 6, 7, 8, 9] (by kernel_rfl) ?_ ?_
          · refine allCons ?_ (allCons ?_ (allCons ?_ (allCons ?_ (allCons ?_ (allCons ?_ (allCons ?_ (allCons ?_ (allCons ?_ (allCons ?_ (allNil))))))))))
            all_goals intro y w10 K hS hd hK
            · have qq0 := (hS.cell (p := ⟨q, 0, none⟩) HQ9.out).trans t0
              have qq1 := (hS.cell (p := ⟨q, 1, none⟩) HQ9.out).trans t1
              have qq2 := (hS.cell (p := ⟨q, 2, none⟩) HQ9.out).trans t2
              refine wpOp_step rfl (fun K2 hK2 => ?_)
              go_simp
              exact hK2 _ _ (hK _ _ hS rfl (Below.refl _ _))
            · refine wpOp_step rfl (fun K2 hK2 => ?_)
              go_simp
              exact hK2 _ _ (hK _ _ hS rfl (Below.refl _ _))
            · have e1 : y 1 = _ := hd 1 rfl
              obtain ⟨y, rfl⟩ := upd_at (y := y) (i := 1) e1
              dsimp [upd]
              refine wpOp_step rfl (fun K2 hK2 => ?_)
              go_simp
              exact hK2 _ _ (hK _ _ hS rfl (Below.refl _ _))
            · have e2 : y 2 = _ := hd 2 rfl
              obtain ⟨y, rfl⟩ := upd_at (y := y) (i := 2) e2
              dsimp [upd]
              have qz := (hS.cell (p := ⟨z, i, none⟩) HZ9.out).trans hcell
              refine wpOp_step rfl (fun K2 hK2 => ?_)
              go_simp
              exact hK2 _ _ (hK _ _ hS rfl (Below.refl _ _))
            · have e0 : y 0 = _ := hd 0 rfl
              have e3 : y 3 = _ := hd 3 rfl
              obtain ⟨y, rfl⟩ := upd_at (y := y) (i := 0) e0
              obtain ⟨y, rfl⟩ := upd_at (y := y) (i := 3) e3
              dsimp [upd]
              refine wpOp_step rfl (fun K2 hK2 => ?_)
              go_simp
              refine (HC.out w10 hS).mono ?_
              rintro e' w2 ⟨rfl, hb2⟩
              exact hK2 _ _ (hK _ _ (below_next hS hb2) rfl hb2)
            · have qg0 := (hS.cell (p := ⟨g9, 0, none⟩) HG9.out).trans d0
              have qg1 := (hS.cell (p := ⟨g9, 1, none⟩) HG9.out).trans d1
              have qg2 := (hS.cell (p := ⟨g9, 2, none⟩) HG9.out).trans d2
              refine wpOp_step rfl (fun K2 hK2 => ?_)
              go_simp
              exact hK2 _ _ (hK _ _ hS rfl (Below.refl _ _))
            · refine wpOp_step rfl (fun K2 hK2 => ?_)
              go_simp
              exact hK2 _ _ (hK _ _ hS rfl (Below.refl _ _))
            · have e6 : y 6 = _ := hd 6 rfl
              obtain ⟨y, rfl⟩ := upd_at (y := y) (i := 6) e6
              dsimp [upd]
              refine wpOp_step rfl (fun K2 hK2 => ?_)
              go_simp
              exact hK2 _ _ (hK _ _ hS rfl (Below.refl _ _))
            · have e7 : y 7 = _ := hd 7 rfl
              obtain ⟨y, rfl⟩ := upd_at (y := y) (i := 7) e7
              dsimp [upd]
              have qz := (hS.cell (p := ⟨z, i, none⟩) HZ9.out).trans hcell
              refine wpOp_step rfl (fun K2 hK2 => ?_)
              go_simp
              exact hK2 _ _ (hK _ _ hS rfl (Below.refl _ _))
            · have e5 : y 5 = _ := hd 5 rfl
              have e8 : y 8 = _ := hd 8 rfl
              obtain ⟨y, rfl⟩ := upd_at (y := y) (i := 5) e5
              obtain ⟨y, rfl⟩ := upd_at (y := y) (i := 8) e8
              dsimp [upd]
              refine wpOp_step rfl (fun K2 hK2 => ?_)
              go_simp
              refine (HD.out w10 hS).mono ?_
              rintro e' w2 ⟨rfl, hb2⟩
              exact hK2 _ _ (hK _ _ (below_next hS hb2) rfl hb2)
          · intro y w10 f hS hd
            have e4 : y 4 = _ := hd 4 (by decide)
            have e9 : y 9 = _ := hd 9 (by decide)
            clear hd
            obtain ⟨y, rfl⟩ := upd_at (y := y) (i := 4) e4
            obtain ⟨y, rfl⟩ := upd_at (y := y) (i := 9) e9
            dsimp [upd]
            refine wpAny_one (i := 10) (by kernel_rfl) ?_
            refine wpOp_step rfl (fun K2 hK2 => ?_)
            go_simp
            refine hK2 _ _ ?_
            clear hK2 K2
            refine wpAny_one (i := 11) (by kernel_rfl) ?_
            refine wpOp_step rfl (fun K2 hK2 => ?_)
            go_simp
            refine hK2 _ _ ?_
            clear hK2 K2 e4 e9
            refine wpAny_done (by kernel_rfl) ?_ _
            have HB10 := Lib.hid (below_next HW.out hS)
            clear hS HW HC HD t0 t1 t2 d0 d1 d2 T9 HB9 HQ9 HG9 HZ9 hcell T8 HB8 HT8 HQL HGL HZL
            have hh1 : i + 1 ≤ 2 := hlt
            by_cases hc0 : (0 : Int) ≤ c
            · obtain ⟨hd0, hdc⟩ := hcd hc0
              have hd1 : ¬ d < 0 := by omega
              have hd2 : ¬ c < d := by omega
              go_wp2_with fail
              exact ⟨⟨i + 1, by go_num, hh1, HB10.out⟩, by simp [intOf]; omega⟩
            · go_wp2_with fail
              exact ⟨⟨i + 1, by go_num, hh1, HB10.out⟩, by simp [intOf]; omega⟩
        · go_wp2_with fail
          go_ret
          exact ⟨rfl, below_next B8.out HW.out⟩
end Go.Proofs.Ytghjpblfneldcaa

/-! sixdotlaw06.TranslateMoreRules: the row. -/
namespace Go.Proofs.Ytghjpblfneldcaa
open Go.ChangeShapes Go.WideShapes Go.ChangeAt Go.WideMaps Go.WideElems Go.RowKit

theorem own : ownKnob Try.prog.godebug = none := by kernel_rfl
theorem laidOut : laidOutB Try.prog = true := by kernel_rfl
set_option maxRecDepth 100000 in
theorem lifted (os : Os) (started : os.Started) (H : Type) (enc : TypeId × Value → H) :
    ReturnsInHanded {} Try.checked os 11 .any (Rows.translateMoreRulesSpec.pre6 enc Try.prog Try.f11 Rows.translateMoreRulesRow.domain false) (Rows.translateMoreRulesSpec.post enc Try.prog Try.f11 false true false false) := by
  refine returnsInHanded_of_change (C := Try.checked) own started (by kernel_rfl) Try.func11
    (ChangeSpec.witness6 (enc := enc) (C := Try.checked) false ⟨#[], #[.agg #[.int .u8 0, .int .u8 0, .slice none 0 0], .slice none 0 0, .agg #[.slice none 0 0, .slice none 0 0, .int .u8 0, .int .u8 0, .int .u8 0, .int .u8 0]], []⟩ 8 (by kernel_rfl) (by kernel_rfl) (by kernel_rfl) (by kernel_rfl)) ?_
  intro W base args ds gs before hval0 hW hcnd _
  have hval : ∀ (j : Nat) t v, Try.f11.params[j]? = some t → args[j]? = some v → Value.okWide Try.prog W .any base t v := hval0
  have hW' := hW
  obtain ⟨p, q, hA0, hV, rfl, hfz, hnd⟩ := hW
  have hA : DataW.TrodAll enc Try.prog W 0 (fun _ => true) true Try.f11.params.toList args.toList ds p := hA0
  rw [Try.params11] at hA hval
  obtain ⟨v0, vs0, d0, ds0, p0, q0, hargs, rfl, rfl, h0, r0⟩ := trodAll_cons hA
  obtain ⟨v1, vs1, d1, ds1, p1, q1, rfl, rfl, rfl, h1, r1⟩ := trodAll_cons r0
  obtain ⟨v2, vs2, d2, ds2, p2, q2, rfl, rfl, rfl, h2, r2⟩ := trodAll_cons r1
  obtain ⟨rfl, rfl, rfl⟩ := trodAll_nil r2
  obtain rfl : args = #[v0, v1, v2] := by cases args; simp_all
  obtain ⟨rfl, rfl⟩ := trodVars_none hV
  have k0 := h0
  have lt0 : ∀ x ∈ p0, x.block < W.heap.size := by obtain ⟨m, hm⟩ := k0; exact DataW.trod_lt m _ _ _ hm
  have k1 := h1
  have lt1 : ∀ x ∈ p1, x.block < W.heap.size := by obtain ⟨m, hm⟩ := k1; exact DataW.trod_lt m _ _ _ hm
  have k2 := h2
  have lt2 : ∀ x ∈ p2, x.block < W.heap.size := by obtain ⟨m, hm⟩ := k2; exact DataW.trod_lt m _ _ _ hm
  obtain ⟨bs, dr, A, n, k, rfl, hr0, hbs, hdr⟩ := open_raw (hval 0 24 v0 rfl rfl) h0
  obtain ⟨XA1, xk1, xs1, rfl, hx1, hz1⟩ := open_bytesL (hval 1 25 v1 rfl rfl) h1
  obtain ⟨PA2, np2, kp2, CA2, nc2, kc2, ps2, cs2, l2, r2, u2, z2, rfl, hq2⟩ := open_rawrule (hval 2 75 v2 rfl rfl) h2
  clear hA0 hval0
  refine (walk_more bs dr A n k XA1 xk1 xs1 PA2 np2 kp2 CA2 nc2 kc2 ps2 cs2 l2 r2 u2 z2 W hr0 hbs hdr hx1 hz1 hq2).mono fun e W' ⟨he, bel⟩ => ?_
  subst he
  exact ⟨_, rfl, _, _, _, [], _, [], hW', trodAll_mk1 (shut_bool Try.underlying4 _), (trodAll_cons_mk (Below.trod laidOut (by kernel_rfl) (of_decide_eq_true (by kernel_rfl)) k0 bel lt0) (trodAll_cons_mk (Below.trod laidOut (by kernel_rfl) (of_decide_eq_true (by kernel_rfl)) k1 bel lt1) (trodAll_cons_mk (Below.trod laidOut (by kernel_rfl) (of_decide_eq_true (by kernel_rfl)) k2 bel lt2) trodAll_mk0))), rfl, bel.frame _, fun h => by cases h⟩

theorem over : Rows.translateMoreRulesRow.holds Try.pinned (OpenSpec.ofChange Rows.translateMoreRulesSpec) :=
  OpenClaim.holds_of_wide 11 Try.f11 rfl rfl rfl rfl rfl rfl rfl ⟨rfl, rfl, rfl, rfl, rfl⟩ rfl rfl rfl rfl rfl (by kernel_rfl) Try.func11 (by kernel_rfl)
    (of_decide_eq_true (by kernel_rfl)) (by unfold Func.isWrapper; first | (rw [if_pos (by decide +kernel)]; kernel_rfl) | (rw [if_neg (by decide +kernel)]; exact ⟨rfl, rfl⟩))
    (fun os started H enc _ => lifted os started H enc)

theorem proved : Rows.TranslateMoreRulesSaid := over
end Go.Proofs.Ytghjpblfneldcaa
