/- Merged by program: Tq5 -/
import Derived.Test.YtpkdlljefkbmpaaT10
import Derived.Test.YtpkdlljefkbmpaaQ23

/-! The reference of package translate: what a place costs if a rule comes next. -/
namespace Go.Proofs.Ytpkdlljefkbmpaa
open Go.RowKit Go.Maps
def AftEnd (v : Int) (w : World) (e : Ending) (w' : World) : Prop := e = .returned (.int .i64 v) ∧ Below w.heap.size w w'
theorem aft_end {v x : Int} {w w' : World} (h : v = x) (hb : Below w.heap.size w w') : AftEnd v w (.returned (.int .i64 x)) w' := ⟨by rw [h], hb⟩
set_option maxRecDepth 10000 in
set_option maxHeartbeats 4000000 in
theorem after6_any (m a : Int) (A : Option Addr) (n k : Nat) (rs : List Rule) (s : ByteArray) (LA : Option Addr) (K lk cg lo i j : Nat) (g : Nat → Nat) (H : Nat × St → Int) (mo la ne : Int) (w : World) (hn : rs.length = n) (hR : Rules w w.heap.size A rs) (hG : GoodL m a rs) (hmax : n ≤ 64) (hm : 1 ≤ m ∧ m ≤ 8) (hs : s.size < 2 ^ 40) (hK : (theG rs).1.length = K) (hL : StAt w w.heap.size LA (theG rs).1) (hst : (⟨mo, la, ne⟩ : St) ∈ (theG rs).1) (hC : CoI w cg (s.size + 1) K lo g (fH rs H)) (hlo : lo ≤ i) (hi : i ≤ s.size) (hj : j < n)
  (hB : ∀ v : Nat × St, v.1 ≤ s.size → v.2 ∈ (theG rs).1 → -1 ≤ H v ∧ H v ≤ 2 ^ 50) :
  Calls Try.prog 76 #[.agg #[.int .i64 m, .int .u8 a, .slice A n k], .agg #[.string s, .int .i64 i, .int .i64 mo, .int .i64 la, .int .u8 ne, .slice LA K lk], .int .i64 j, .slice (some ⟨cg, 0, none⟩) (s.size + 1) (s.size + 1)] w (AftEnd (aftV rs (bytes s) H (i, ⟨mo, la, ne⟩) j) w) := by
 subst hn
 obtain ⟨b, o, CA, ck, rfl, hb, c0, c1, -⟩ := rules_row hR hj
 have HG := Lib.hid hG
 have HFT := Lib.hid hR.fit
 have HS2 := Lib.hid (((theG_ok hG hR.fit hm.1).1 _ hst).fit hm.2)
 have HED : Hid (∀ u, edgR rs (bytes s) (i, ⟨mo, la, ne⟩) (j : Int) = some u → i ≤ u.1 ∧ u.1 ≤ s.size ∧ u.2 ∈ (theG rs).1) := fun u he => by
  have h := edgR_in hG hR.fit hm (v := (i, ⟨mo, la, ne⟩)) (by show i ≤ (bytes s).length; rw [bytes_len]; exact hi) hst he
  rw [bytes_len] at h
  exact h
 have HEM : Hid ((stepS rs ⟨mo, la, ne⟩ (j : Int)).2 = true → (bytes rs[j].p).isPrefixOf ((bytes s).drop i) = true → edgR rs (bytes s) (i, ⟨mo, la, ne⟩) (j : Int) = some (i + rs[j].p.size, (stepS rs ⟨mo, la, ne⟩ (j : Int)).1)) := fun h1 h2 => edgR_mk (v := (i, ⟨mo, la, ne⟩)) hj h1 h2
 have HEN : Hid (((stepS rs ⟨mo, la, ne⟩ (j : Int)).2 = false ∨ (bytes rs[j].p).isPrefixOf ((bytes s).drop i) = false) → edgR rs (bytes s) (i, ⟨mo, la, ne⟩) (j : Int) = none) := fun h => by
  cases he : edgR rs (bytes s) (i, ⟨mo, la, ne⟩) (j : Int) with
  | none => rfl
  | some u =>
   obtain ⟨j', e, hj', h1, h2, _⟩ := edgR_some he
   have : j = j' := by omega
   subst this
   rcases h with h | h
   ·
    rw [h] at h1; cases h1
   ·
    rw [h] at h2; cases h2
 have HCR : Hid (cstR rs (j : Int) = rs[j].c.length) := by unfold Hid cstR; rw [rule_at hj]
 have HSZ := Lib.hid (sound_sizes hG (List.getElem_mem hj))
 have HR := Lib.hid hR
 have HL := Lib.hid hL
 have HC := Lib.hid hC
 have HBD := Lib.hid hB
 have HKE := Lib.hid hK
 have HPV : Hid (Blk ((w.alloc (.cells #[.int .i64 m, .int .u8 a, .slice (some ⟨b, o, none⟩) rs.length k] 30)).alloc (.cells #[.string s, .int .i64 i, .int .i64 mo, .int .i64 la, .int .u8 ne, .slice LA K lk] 128)) w.heap.size 30 #[.int .i64 m, .int .u8 a, .slice (some ⟨b, o, none⟩) rs.length k] ∧ Blk ((w.alloc (.cells #[.int .i64 m, .int .u8 a, .slice (some ⟨b, o, none⟩) rs.length k] 30)).alloc (.cells #[.string s, .int .i64 i, .int .i64 mo, .int .i64 la, .int .u8 ne, .slice LA K lk] 128)) (w.heap.size + 1) 128 #[.string s, .int .i64 i, .int .i64 mo, .int .i64 la, .int .u8 ne, .slice LA K lk] ∧ Below w.heap.size w ((w.alloc (.cells #[.int .i64 m, .int .u8 a, .slice (some ⟨b, o, none⟩) rs.length k] 30)).alloc (.cells #[.string s, .int .i64 i, .int .i64 mo, .int .i64 la, .int .u8 ne, .slice LA K lk] 128))) := by
  have n2 := Blk.new (w.alloc (.cells #[.int .i64 m, .int .u8 a, .slice (some ⟨b, o, none⟩) rs.length k] 30)) #[.string s, .int .i64 i, .int .i64 mo, .int .i64 la, .int .u8 ne, .slice LA K lk] 128
  have s1 : (w.alloc (.cells #[.int .i64 m, .int .u8 a, .slice (some ⟨b, o, none⟩) rs.length k] 30)).heap.size = w.heap.size + 1 := by simp
  rw [s1] at n2
  exact ⟨(Blk.new _ _ _).box, n2, ((Below.refl _ _).alloc (Nat.le_refl _) _).alloc (by omega) _⟩
 generalize rs[j] = x at *
 obtain ⟨⟨⟨ta, tb, tc⟩, okb⟩, hsr⟩ : ∃ r, stepS rs ⟨mo, la, ne⟩ (j : Int) = r := ⟨_, rfl⟩
 rw [hsr] at HEM HEN
 have HSR := Lib.hid hsr
 clear hsr hG hR hL hC hB hst hK
 go_enter Try.func76, Try.ntmps76
 go_wp2_with fail
 generalize (w.alloc (.cells #[.int .i64 m, .int .u8 a, .slice (some ⟨b, o, none⟩) rs.length k] 30)).alloc (.cells #[.string s, .int .i64 i, .int .i64 mo, .int .i64 la, .int .u8 ne, .slice LA K lk] 128) = V at *
 obtain ⟨q, hq⟩ : ∃ q, w.heap.size = q := ⟨_, rfl⟩
 rw [hq] at HPV
 simp only [hq]
 have HQE := Lib.hid hq
 clear hq
 obtain ⟨p, hp⟩ : ∃ p, q + 1 = p := ⟨_, rfl⟩
 rw [hp] at HPV
 simp only [hp]
 clear hp
 have HWV : Hid (Below w.heap.size w V) := by have h := HPV.out.2.2; rw [HQE.out]; exact h
 refine (rStep_any m a (some ⟨b, o, none⟩) rs.length k rs ⟨mo, la, ne⟩ j rfl HS2.out (by omega) V (HR.out.up HWV.out)).mono ?_
 rintro e w1 ⟨rfl, hb1⟩
 rw [HSR.out]
 dsimp only [St.val]
 have HB1 := Lib.hid (below_next HWV.out hb1)
 have HT1 := Lib.hid (HPV.out.1.keep hb1 HPV.out.1.lt)
 have HP1 := Lib.hid (HPV.out.2.1.keep hb1 HPV.out.2.1.lt)
 clear hb1 HPV HWV
 have HN1 : Hid (Blk (w1.alloc (.cells #[.int .i64 ta, .int .i64 tb, .int .u8 tc] 47)) w1.heap.size 47 #[.int .i64 ta, .int .i64 tb, .int .u8 tc]) := Blk.new _ _ _
 have HBX := Lib.hid (below_box w1 #[.int .i64 ta, .int .i64 tb, .int .u8 tc] 47)
 go_upto_region 2 with fail
 generalize w1.alloc (.cells #[.int .i64 ta, .int .i64 tb, .int .u8 tc] 47) = W at *
 obtain ⟨d, hd⟩ : ∃ d, w1.heap.size = d := ⟨_, rfl⟩
 rw [hd] at HN1
 simp only [hd]
 have HB2 : Hid (Below w.heap.size w W) := below_next HB1.out HBX.out
 have HT2 : Hid (Blk W q 30 #[.int .i64 m, .int .u8 a, .slice (some ⟨b, o, none⟩) rs.length k]) := HT1.out.keep HBX.out HT1.out.lt
 have HP2 : Hid (Blk W p 128 #[.string s, .int .i64 i, .int .i64 mo, .int .i64 la, .int .u8 ne, .slice LA K lk]) := HP1.out.keep HBX.out HP1.out.lt
 clear hd HB1 HT1 HP1 HBX
 have hql := HT2.out.lt
 have hpl := HP2.out.lt
 have t2 := HT2.out.cell 2
 have p0 := HP2.out.cell 0
 have p1 := HP2.out.cell 1
 have p5 := HP2.out.cell 5
 simp only [List.getElem?_toArray, List.getElem?_cons_zero, List.getElem?_cons_succ] at t2 p0 p1 p5
 have hbW : b < W.heap.size := by have := HB2.out.size; omega
 have x0 := (HB2.out.cell (p := ⟨b, o + j * 6, none⟩) hb).trans c0
 have x1 := (HB2.out.cell (p := ⟨b, o + j * 6 + 1, none⟩) hb).trans c1
 clear c0 c1 hb
 have hj0 : (0 : Int) ≤ (j : Int) := by omega
 have hjn : (j : Int) < (rs.length : Int) := by omega
 have HCW := Lib.hid (HC.out.keep HB2.out)
 have HLW := Lib.hid (HL.out.up HB2.out)
 clear HC HL HR
 cases okb with
 | false =>
  have HV := Lib.hid (aft_none (H := H) (HEN.out (.inl rfl)))
  clear HEM HEN
  refine wp_region_head 15 0 (by kernel_rfl) (fun y => (.agg #[.int .i64 m, .int .u8 a, .slice (some ⟨b, o, none⟩) rs.length k]) :: (.agg #[Value.string s, .int .i64 ↑i, .int .i64 mo, .int .i64 la, .int .u8 ne, .slice LA K lk]) :: (.int .i64 ↑j) :: (.slice (some ⟨cg, 0, none⟩) (s.size + 1) (s.size + 1)) :: (.pointer (some ⟨q, 0, none⟩)) :: (.pointer (some ⟨p, 0, none⟩)) :: undef :: undef :: (.int .i64 0) :: (.pointer (some ⟨d, 0, none⟩)) :: (.bool false) :: undef :: (.tuple #[Value.agg #[.int .i64 ta, .int .i64 tb, .int .u8 tc], .bool false]) :: (.agg #[.int .i64 m, .int .u8 a, .slice (some ⟨b, o, none⟩) rs.length k]) :: (.pointer (some ⟨p, 2, none⟩)) :: (.agg #[.int .i64 mo, .int .i64 la, .int .u8 ne]) :: (.int .i64 ↑j) :: (.tuple #[Value.agg #[.int .i64 ta, .int .i64 tb, .int .u8 tc], .bool false]) :: (.agg #[.int .i64 ta, .int .i64 tb, .int .u8 tc]) :: (.bool false) :: y 0 :: y 1 :: y 2 :: y 3 :: y 4 :: y 5 :: y 6 :: y 7 :: y 8 :: y 9 :: y 10 :: y 11 :: y 12 :: y 13 :: y 14 :: undef :: undef :: undef :: undef :: undef :: undef :: undef :: undef :: undef :: undef :: undef :: undef :: undef :: undef :: undef :: undef :: undef :: undef :: undef :: undef :: undef :: undef :: undef :: undef :: undef :: undef :: undef :: undef :: undef :: undef :: undef :: [])
   (fun _ w' => Below W.heap.size W w') (phiP [pv (.bool false), pv (.bool true), pv (.bool true), pv (undef), pv (undef), pv (undef), pv (undef), pv (undef), pv (undef), pv (undef), pv (undef), pv (undef), pv (undef), pv (undef), pv (undef)]) (fun i => match i with | 0 => undef | 1 => undef | 2 => undef | 3 => undef | 4 => undef | 5 => undef | 6 => undef | 7 => undef | 8 => undef | 9 => undef | 10 => undef | 11 => undef | 12 => undef | 13 => undef | 14 => undef | _ => undef)
   (by kernel_rfl) (by kernel_rfl) (by kernel_rfl) (by kernel_rfl) (fun i v wa wb h hb => phiP_keep (stay_cons (pv_st) (stay_cons (pv_st) (stay_cons (pv_st) (stay_cons (pv_st) (stay_cons (pv_st) (stay_cons (pv_st) (stay_cons (pv_st) (stay_cons (pv_st) (stay_cons (pv_st) (stay_cons (pv_st) (stay_cons (pv_st) (stay_cons (pv_st) (stay_cons (pv_st) (stay_cons (pv_st) (stay_cons (pv_st) stay_nil))))))))))))))) h hb) (Below.refl _ _).drew [0, 1, 2, 3, 4, 5, 6, 7, 8, 9, 10, 11, 12, 13, 14] (by kernel_rfl) ?_ ?_
  ·
   refine allCons ?_ (allCons ?_ (allCons ?_ (allCons ?_ (allCons ?_ (allCons ?_ (allCons ?_ (allCons ?_ (allCons ?_ (allCons ?_ (allCons ?_ (allCons ?_ (allCons ?_ (allCons ?_ (allCons ?_ (allNil)))))))))))))))
   all_goals intro y w10 K hS hd hK
   ·
    refine wpOp_step rfl (fun K2 hK2 => ?_)
    go_simp
    exact hK2 _ _ (hK _ _ hS rfl (Below.refl _ _))
   ·
    have e0 : y 0 = _ := hd 0 rfl
    obtain ⟨y, rfl⟩ := upd_at (y := y) (i := 0) e0
    dsimp [upd]
    refine wpOp_step rfl (fun K2 hK2 => ?_)
    go_simp
    exact hK2 _ _ (hK _ _ hS rfl (Below.refl _ _))
   ·
    have e1 : y 1 = _ := hd 1 rfl
    obtain ⟨y, rfl⟩ := upd_at (y := y) (i := 1) e1
    dsimp [upd]
    refine wpOp_step rfl (fun K2 hK2 => ?_)
    go_simp
    exact hK2 _ _ (hK _ _ hS rfl (Below.refl _ _))
   ·
    have e2 : y 2 = _ := hd 2 rfl
    obtain ⟨y, rfl⟩ := upd_at (y := y) (i := 2) e2
    dsimp [upd]
    refine wpOp_step rfl (fun K2 hK2 => ?_)
    go_simp
    exact hK2 _ _ (hK _ _ hS rfl (Below.refl _ _))
   ·
    have e2 : y 2 = _ := hd 2 rfl
    obtain ⟨y, rfl⟩ := upd_at (y := y) (i := 2) e2
    dsimp [upd]
    refine wpOp_step rfl (fun K2 hK2 => ?_)
    go_simp
    exact hK2 _ _ (hK _ _ hS rfl (Below.refl _ _))
   ·
    have e2 : y 2 = _ := hd 2 rfl
    obtain ⟨y, rfl⟩ := upd_at (y := y) (i := 2) e2
    dsimp [upd]
    refine wpOp_step rfl (fun K2 hK2 => ?_)
    go_simp
    exact hK2 _ _ (hK _ _ hS rfl (Below.refl _ _))
   ·
    have e2 : y 2 = _ := hd 2 rfl
    obtain ⟨y, rfl⟩ := upd_at (y := y) (i := 2) e2
    dsimp [upd]
    refine wpOp_step rfl (fun K2 hK2 => ?_)
    go_simp
    exact hK2 _ _ (hK _ _ hS rfl (Below.refl _ _))
   ·
    have e2 : y 2 = _ := hd 2 rfl
    obtain ⟨y, rfl⟩ := upd_at (y := y) (i := 2) e2
    dsimp [upd]
    refine wpOp_step rfl (fun K2 hK2 => ?_)
    go_simp
    exact hK2 _ _ (hK _ _ hS rfl (Below.refl _ _))
   ·
    have e2 : y 2 = _ := hd 2 rfl
    obtain ⟨y, rfl⟩ := upd_at (y := y) (i := 2) e2
    dsimp [upd]
    refine wpOp_step rfl (fun K2 hK2 => ?_)
    go_simp
    exact hK2 _ _ (hK _ _ hS rfl (Below.refl _ _))
   ·
    have e2 : y 2 = _ := hd 2 rfl
    obtain ⟨y, rfl⟩ := upd_at (y := y) (i := 2) e2
    dsimp [upd]
    refine wpOp_step rfl (fun K2 hK2 => ?_)
    go_simp
    exact hK2 _ _ (hK _ _ hS rfl (Below.refl _ _))
   ·
    have e2 : y 2 = _ := hd 2 rfl
    obtain ⟨y, rfl⟩ := upd_at (y := y) (i := 2) e2
    dsimp [upd]
    refine wpOp_step rfl (fun K2 hK2 => ?_)
    go_simp
    exact hK2 _ _ (hK _ _ hS rfl (Below.refl _ _))
   ·
    have e2 : y 2 = _ := hd 2 rfl
    obtain ⟨y, rfl⟩ := upd_at (y := y) (i := 2) e2
    dsimp [upd]
    refine wpOp_step rfl (fun K2 hK2 => ?_)
    go_simp
    exact hK2 _ _ (hK _ _ hS rfl (Below.refl _ _))
   ·
    have e2 : y 2 = _ := hd 2 rfl
    obtain ⟨y, rfl⟩ := upd_at (y := y) (i := 2) e2
    dsimp [upd]
    refine wpOp_step rfl (fun K2 hK2 => ?_)
    go_simp
    exact hK2 _ _ (hK _ _ hS rfl (Below.refl _ _))
   ·
    have e2 : y 2 = _ := hd 2 rfl
    obtain ⟨y, rfl⟩ := upd_at (y := y) (i := 2) e2
    dsimp [upd]
    refine wpOp_step rfl (fun K2 hK2 => ?_)
    go_simp
    exact hK2 _ _ (hK _ _ hS rfl (Below.refl _ _))
   ·
    have e2 : y 2 = _ := hd 2 rfl
    obtain ⟨y, rfl⟩ := upd_at (y := y) (i := 2) e2
    dsimp [upd]
    refine wpOp_step rfl (fun K2 hK2 => ?_)
    go_simp
    exact hK2 _ _ (hK _ _ hS rfl (Below.refl _ _))
  ·
   intro y w10 f hS hd
   have e2 : y 2 = _ := hd 2 (by decide)
   clear hd
   obtain ⟨y, rfl⟩ := upd_at (y := y) (i := 2) e2
   dsimp [upd]
   refine wpAny_one (i := 15) (by kernel_rfl) ?_
   refine wpOp_step rfl (fun K2 hK2 => ?_)
   go_simp
   refine hK2 _ _ ?_
   clear hK2 K2 e2
   refine wpAny_done (by kernel_rfl) ?_ _
   have HB3 := Lib.hid (below_next HB2.out hS)
   clear hS
   go_wp2_with fail
   go_ret
   exact aft_end HV.out HB3.out
 | true =>
  obtain ⟨pre, hpre⟩ : ∃ pre, (bytes x.p).isPrefixOf ((bytes s).drop i) = pre := ⟨_, rfl⟩
  have HBG : Hid (∀ W', Calls Try.prog 80 #[.string s, .int .i64 i, .string x.p] W' fun e w' => e = .returned (.bool pre) ∧ Below W'.heap.size W' w') := fun W' => by
   have h := begins6_any s x.p i W' hi hs (by have := HSZ.out.1; omega)
   rw [hpre] at h
   exact h
  rw [hpre] at HEM HEN
  clear hpre
  refine wp_region_head 15 0 (by kernel_rfl) (fun y => (.agg #[.int .i64 m, .int .u8 a, .slice (some ⟨b, o, none⟩) rs.length k]) :: (.agg #[Value.string s, .int .i64 ↑i, .int .i64 mo, .int .i64 la, .int .u8 ne, .slice LA K lk]) :: (.int .i64 ↑j) :: (.slice (some ⟨cg, 0, none⟩) (s.size + 1) (s.size + 1)) :: (.pointer (some ⟨q, 0, none⟩)) :: (.pointer (some ⟨p, 0, none⟩)) :: undef :: undef :: (.int .i64 0) :: (.pointer (some ⟨d, 0, none⟩)) :: (.bool true) :: undef :: (.tuple #[Value.agg #[.int .i64 ta, .int .i64 tb, .int .u8 tc], .bool true]) :: (.agg #[.int .i64 m, .int .u8 a, .slice (some ⟨b, o, none⟩) rs.length k]) :: (.pointer (some ⟨p, 2, none⟩)) :: (.agg #[.int .i64 mo, .int .i64 la, .int .u8 ne]) :: (.int .i64 ↑j) :: (.tuple #[Value.agg #[.int .i64 ta, .int .i64 tb, .int .u8 tc], .bool true]) :: (.agg #[.int .i64 ta, .int .i64 tb, .int .u8 tc]) :: (.bool true) :: y 0 :: y 1 :: y 2 :: y 3 :: y 4 :: y 5 :: y 6 :: y 7 :: y 8 :: y 9 :: y 10 :: y 11 :: y 12 :: y 13 :: y 14 :: undef :: undef :: undef :: undef :: undef :: undef :: undef :: undef :: undef :: undef :: undef :: undef :: undef :: undef :: undef :: undef :: undef :: undef :: undef :: undef :: undef :: undef :: undef :: undef :: undef :: undef :: undef :: undef :: undef :: undef :: undef :: [])
   (fun _ w' => Below W.heap.size W w') (phiP [pv (.bool true), pv (.bool false), pv (.bool false), pv (.pointer (some ⟨p, 0, none⟩)), pv (.string s), pv (.pointer (some ⟨p, 1, none⟩)), pv (.int .i64 i), pv (.pointer (some ⟨q, 2, none⟩)), pv (.slice (some ⟨b, o, none⟩) rs.length k), pv (.int .i64 j), pv (.pointer (some ⟨b, o + j * 6, none⟩)), pv (.pointer (some ⟨b, o + j * 6, none⟩)), pv (.string x.p), pv (.bool pre), pv (.bool (!pre))]) (fun i => match i with | 0 => undef | 1 => undef | 2 => undef | 3 => undef | 4 => undef | 5 => undef | 6 => undef | 7 => undef | 8 => undef | 9 => undef | 10 => undef | 11 => undef | 12 => undef | 13 => undef | 14 => undef | _ => undef)
   (by kernel_rfl) (by kernel_rfl) (by kernel_rfl) (by kernel_rfl) (fun i v wa wb h hb => phiP_keep (stay_cons (pv_st) (stay_cons (pv_st) (stay_cons (pv_st) (stay_cons (pv_st) (stay_cons (pv_st) (stay_cons (pv_st) (stay_cons (pv_st) (stay_cons (pv_st) (stay_cons (pv_st) (stay_cons (pv_st) (stay_cons (pv_st) (stay_cons (pv_st) (stay_cons (pv_st) (stay_cons (pv_st) (stay_cons (pv_st) stay_nil))))))))))))))) h hb) (Below.refl _ _).drew [0, 1, 2, 3, 4, 5, 6, 7, 8, 9, 10, 11, 12, 13, 14] (by kernel_rfl) ?_ ?_
  ·
   refine allCons ?_ (allCons ?_ (allCons ?_ (allCons ?_ (allCons ?_ (allCons ?_ (allCons ?_ (allCons ?_ (allCons ?_ (allCons ?_ (allCons ?_ (allCons ?_ (allCons ?_ (allCons ?_ (allCons ?_ (allNil)))))))))))))))
   all_goals intro y w10 K hS hd hK
   ·
    refine wpOp_step rfl (fun K2 hK2 => ?_)
    go_simp
    exact hK2 _ _ (hK _ _ hS rfl (Below.refl _ _))
   ·
    have e0 : y 0 = _ := hd 0 rfl
    obtain ⟨y, rfl⟩ := upd_at (y := y) (i := 0) e0
    dsimp [upd]
    refine wpOp_step rfl (fun K2 hK2 => ?_)
    go_simp
    exact hK2 _ _ (hK _ _ hS rfl (Below.refl _ _))
   ·
    have e1 : y 1 = _ := hd 1 rfl
    obtain ⟨y, rfl⟩ := upd_at (y := y) (i := 1) e1
    dsimp [upd]
    refine wpOp_step rfl (fun K2 hK2 => ?_)
    go_simp
    exact hK2 _ _ (hK _ _ hS rfl (Below.refl _ _))
   ·
    have e2 : y 2 = _ := hd 2 rfl
    obtain ⟨y, rfl⟩ := upd_at (y := y) (i := 2) e2
    dsimp [upd]
    refine wpOp_step rfl (fun K2 hK2 => ?_)
    go_simp
    exact hK2 _ _ (hK _ _ hS rfl (Below.refl _ _))
   ·
    have e2 : y 2 = _ := hd 2 rfl
    have e3 : y 3 = _ := hd 3 rfl
    obtain ⟨y, rfl⟩ := upd_at (y := y) (i := 2) e2
    obtain ⟨y, rfl⟩ := upd_at (y := y) (i := 3) e3
    dsimp [upd]
    have q0 := (hS.cell (p := ⟨p, 0, none⟩) hpl).trans p0
    refine wpOp_step rfl (fun K2 hK2 => ?_)
    go_simp
    exact hK2 _ _ (hK _ _ hS rfl (Below.refl _ _))
   ·
    have e2 : y 2 = _ := hd 2 rfl
    obtain ⟨y, rfl⟩ := upd_at (y := y) (i := 2) e2
    dsimp [upd]
    refine wpOp_step rfl (fun K2 hK2 => ?_)
    go_simp
    exact hK2 _ _ (hK _ _ hS rfl (Below.refl _ _))
   ·
    have e2 : y 2 = _ := hd 2 rfl
    have e5 : y 5 = _ := hd 5 rfl
    obtain ⟨y, rfl⟩ := upd_at (y := y) (i := 2) e2
    obtain ⟨y, rfl⟩ := upd_at (y := y) (i := 5) e5
    dsimp [upd]
    have q1 := (hS.cell (p := ⟨p, 1, none⟩) hpl).trans p1
    refine wpOp_step rfl (fun K2 hK2 => ?_)
    go_simp
    exact hK2 _ _ (hK _ _ hS rfl (Below.refl _ _))
   ·
    have e2 : y 2 = _ := hd 2 rfl
    obtain ⟨y, rfl⟩ := upd_at (y := y) (i := 2) e2
    dsimp [upd]
    refine wpOp_step rfl (fun K2 hK2 => ?_)
    go_simp
    exact hK2 _ _ (hK _ _ hS rfl (Below.refl _ _))
   ·
    have e2 : y 2 = _ := hd 2 rfl
    have e7 : y 7 = _ := hd 7 rfl
    obtain ⟨y, rfl⟩ := upd_at (y := y) (i := 2) e2
    obtain ⟨y, rfl⟩ := upd_at (y := y) (i := 7) e7
    dsimp [upd]
    have q2 := (hS.cell (p := ⟨q, 2, none⟩) hql).trans t2
    refine wpOp_step rfl (fun K2 hK2 => ?_)
    go_simp
    exact hK2 _ _ (hK _ _ hS rfl (Below.refl _ _))
   ·
    have e2 : y 2 = _ := hd 2 rfl
    obtain ⟨y, rfl⟩ := upd_at (y := y) (i := 2) e2
    dsimp [upd]
    refine wpOp_step rfl (fun K2 hK2 => ?_)
    go_simp
    exact hK2 _ _ (hK _ _ hS rfl (Below.refl _ _))
   ·
    have e2 : y 2 = _ := hd 2 rfl
    have e8 : y 8 = _ := hd 8 rfl
    have e9 : y 9 = _ := hd 9 rfl
    obtain ⟨y, rfl⟩ := upd_at (y := y) (i := 2) e2
    obtain ⟨y, rfl⟩ := upd_at (y := y) (i := 8) e8
    obtain ⟨y, rfl⟩ := upd_at (y := y) (i := 9) e9
    dsimp [upd]
    refine wpOp_step rfl (fun K2 hK2 => ?_)
    go_simp
    exact hK2 _ _ (hK _ _ hS rfl (Below.refl _ _))
   ·
    have e2 : y 2 = _ := hd 2 rfl
    have e10 : y 10 = _ := hd 10 rfl
    obtain ⟨y, rfl⟩ := upd_at (y := y) (i := 2) e2
    obtain ⟨y, rfl⟩ := upd_at (y := y) (i := 10) e10
    dsimp [upd]
    refine wpOp_step rfl (fun K2 hK2 => ?_)
    go_simp
    exact hK2 _ _ (hK _ _ hS rfl (Below.refl _ _))
   ·
    have e2 : y 2 = _ := hd 2 rfl
    have e11 : y 11 = _ := hd 11 rfl
    obtain ⟨y, rfl⟩ := upd_at (y := y) (i := 2) e2
    obtain ⟨y, rfl⟩ := upd_at (y := y) (i := 11) e11
    dsimp [upd]
    have q3 := (hS.cell (p := ⟨b, o + j * 6, none⟩) hbW).trans x0
    refine wpOp_step rfl (fun K2 hK2 => ?_)
    go_simp
    exact hK2 _ _ (hK _ _ hS rfl (Below.refl _ _))
   ·
    have e2 : y 2 = _ := hd 2 rfl
    have e4 : y 4 = _ := hd 4 rfl
    have e6 : y 6 = _ := hd 6 rfl
    have e12 : y 12 = _ := hd 12 rfl
    obtain ⟨y, rfl⟩ := upd_at (y := y) (i := 2) e2
    obtain ⟨y, rfl⟩ := upd_at (y := y) (i := 4) e4
    obtain ⟨y, rfl⟩ := upd_at (y := y) (i := 6) e6
    obtain ⟨y, rfl⟩ := upd_at (y := y) (i := 12) e12
    dsimp [upd]
    refine wpOp_step rfl (fun K2 hK2 => ?_)
    go_simp
    refine (HBG.out w10).mono ?_
    rintro e' w2 ⟨rfl, hb2⟩
    exact hK2 _ _ (hK _ _ (below_next hS hb2) rfl hb2)
   ·
    have e2 : y 2 = _ := hd 2 rfl
    have e13 : y 13 = _ := hd 13 rfl
    obtain ⟨y, rfl⟩ := upd_at (y := y) (i := 2) e2
    obtain ⟨y, rfl⟩ := upd_at (y := y) (i := 13) e13
    dsimp [upd]
    refine wpOp_step rfl (fun K2 hK2 => ?_)
    go_simp
    exact hK2 _ _ (hK _ _ hS rfl (Below.refl _ _))
  ·
   intro y w10 f hS hd
   have e2 : y 2 = _ := hd 2 (by decide)
   have e14 : y 14 = _ := hd 14 (by decide)
   clear hd
   obtain ⟨y, rfl⟩ := upd_at (y := y) (i := 2) e2
   obtain ⟨y, rfl⟩ := upd_at (y := y) (i := 14) e14
   dsimp [upd]
   refine wpAny_one (i := 15) (by kernel_rfl) ?_
   refine wpOp_step rfl (fun K2 hK2 => ?_)
   go_simp
   refine hK2 _ _ ?_
   clear hK2 K2 e2 e14
   refine wpAny_done (by kernel_rfl) ?_ _
   cases pre with
   | false =>
    have HV := Lib.hid (aft_none (H := H) (HEN.out (.inr rfl)))
    have HB3 := Lib.hid (below_next HB2.out hS)
    clear hS
    go_wp2_with fail
    go_ret
    exact aft_end HV.out HB3.out
   | true =>
    have HE := Lib.hid (HEM.out rfl rfl)
    obtain ⟨hit, htp, hmem⟩ := HED.out _ HE.out
    dsimp only at hit htp hmem
    obtain ⟨kk, hkk, hkg⟩ := idx_mem hmem
    have hkK : kk < K := by rw [← HKE.out]; exact (List.getElem?_eq_some_iff.1 hkg).1
    have HV : Hid (aftV rs (bytes s) H (i, ⟨mo, la, ne⟩) j = if H (i + x.p.size, ⟨ta, tb, tc⟩) < 0 then -1 else H (i + x.p.size, ⟨ta, tb, tc⟩) + (x.c.length : Nat)) := by
     unfold Hid
     rw [aft_some HE.out, HCR.out]
    have hbd := HBD.out (i + x.p.size, ⟨ta, tb, tc⟩) htp hmem
    have hfh : fH rs H (i + x.p.size) kk = H (i + x.p.size, ⟨ta, tb, tc⟩) := by
     unfold fH
     rw [List.getD_eq_getElem?_getD, hkg, Option.getD_some]
    obtain ⟨hv, hhv⟩ : ∃ hv, H (i + x.p.size, ⟨ta, tb, tc⟩) = hv := ⟨_, rfl⟩
    rw [hhv] at HV hbd hfh
    have hx4 := HSZ.out.1
    have hxc := HSZ.out.2.2
    have HB3 := Lib.hid (below_next HB2.out hS)
    have HT3 := Lib.hid (HT2.out.keep hS HT2.out.lt)
    have HP3 := Lib.hid (HP2.out.keep hS HP2.out.lt)
    have HN3 := Lib.hid (HN1.out.keep hS HN1.out.lt)
    have HC3 := Lib.hid (HCW.out.keep hS)
    have HL3 := Lib.hid (HLW.out.up hS)
    have HIX : Hid (∀ W' : World, Below w10.heap.size w10 W' → Calls Try.prog 63 #[.slice LA K lk, .agg #[.int .i64 ta, .int .i64 tb, .int .u8 tc]] W' fun e w' => e = .returned (.int .i64 kk) ∧ Below W'.heap.size W' w') := fun W' hb => by
     have h := index_st LA K lk (theG rs).1 ⟨ta, tb, tc⟩ W' HKE.out (HL3.out.up hb) (by have := (theG_ok HG.out HFT.out hm.1).le ⟨by omega, hm.2⟩; have := HKE.out; omega)
     rw [hkk] at h
     exact h
    have x0' := (hS.cell (p := ⟨b, o + j * 6, none⟩) hbW).trans x0
    have x1' := (hS.cell (p := ⟨b, o + j * 6 + 1, none⟩) hbW).trans x1
    have hbW3 : b < w10.heap.size := by have := hS.size; omega
    have r0 := HC3.out.co.cell (i + x.p.size)
    rw [rowOf_get _ _ _ (by omega), if_pos (by omega)] at r0
    have HR3 := HC3.out.ro (i + x.p.size) (by omega) (by omega)
    have r1 := HR3.cell kk
    rw [rowOf_get _ _ _ hkK, hfh] at r1
    have hcgl := HC3.out.co.lt
    have hgtl := HR3.lt
    clear HE HEM HEN HED HBD hhv hfh hkg hkk hmem x0 x1 hbW t2 p0 p1 p5 hql hpl HR3 HT2 HP2 HN1 HCW HLW HB2 HC3 HL3 HBG
    generalize g (i + x.p.size) = gt at *
    obtain ⟨tp, htpE⟩ : ∃ tp, i + x.p.size = tp := ⟨_, rfl⟩
    rw [htpE] at r0 htp
    have htpi : (i : Int) + (x.p.size : Int) = (tp : Int) := by omega
    have hwr : IntKind.i64.wrap (tp : Int) = (tp : Int) := IntWalk.i64_in _ (by omega)
    have htp0 : (0 : Int) ≤ (tp : Int) := by omega
    have htp1 : (tp : Int) < (s.size : Int) + 1 := by omega
    have hkk0 : (0 : Int) ≤ (kk : Int) := by omega
    have hkk1 : (kk : Int) < (K : Int) := by omega
    clear htpE hit
    have t2 := HT3.out.cell 2
    have p1 := HP3.out.cell 1
    have p5 := HP3.out.cell 5
    have d0 := HN3.out.cell 0
    have d1 := HN3.out.cell 1
    have d2 := HN3.out.cell 2
    simp only [List.getElem?_toArray, List.getElem?_cons_zero, List.getElem?_cons_succ] at t2 p1 p5 d0 d1 d2
    have hql3 := HT3.out.lt
    have hpl3 := HP3.out.lt
    have hdl3 := HN3.out.lt
    generalize w10 = w3 at *
    have x0 := x0'
    have x1 := x1'
    clear x0' x1' hS
    go_upto_region 4 with fail
    obtain ⟨yo, rfl⟩ : ∃ yo : Nat → Value, yo = y := ⟨_, rfl⟩
    refine wp_region_head 19 0 (by kernel_rfl) (fun y => (.agg #[.int .i64 m, .int .u8 a, .slice (some ⟨b, o, none⟩) rs.length k]) :: (.agg #[Value.string s, .int .i64 ↑i, .int .i64 mo, .int .i64 la, .int .u8 ne, .slice LA K lk]) :: (.int .i64 ↑j) :: (.slice (some ⟨cg, 0, none⟩) (s.size + 1) (s.size + 1)) :: (.pointer (some ⟨q, 0, none⟩)) :: (.pointer (some ⟨p, 0, none⟩)) :: undef :: undef :: (.int .i64 0) :: (.pointer (some ⟨d, 0, none⟩)) :: (.bool true) :: undef :: (.tuple #[Value.agg #[.int .i64 ta, .int .i64 tb, .int .u8 tc], .bool true]) :: (.agg #[.int .i64 m, .int .u8 a, .slice (some ⟨b, o, none⟩) rs.length k]) :: (.pointer (some ⟨p, 2, none⟩)) :: (.agg #[.int .i64 mo, .int .i64 la, .int .u8 ne]) :: (.int .i64 ↑j) :: (.tuple #[Value.agg #[.int .i64 ta, .int .i64 tb, .int .u8 tc], .bool true]) :: (.agg #[.int .i64 ta, .int .i64 tb, .int .u8 tc]) :: (.bool true) :: (yo 0) :: (yo 1) :: (.bool false) :: (yo 3) :: (yo 4) :: (yo 5) :: (yo 6) :: (yo 7) :: (yo 8) :: (yo 9) :: (yo 10) :: (yo 11) :: (yo 12) :: (yo 13) :: (.bool !true) :: (.bool !true) :: y 0 :: y 1 :: y 2 :: y 3 :: y 4 :: y 5 :: y 6 :: y 7 :: y 8 :: y 9 :: y 10 :: y 11 :: y 12 :: y 13 :: y 14 :: y 15 :: y 16 :: y 17 :: y 18 :: undef :: undef :: undef :: undef :: undef :: undef :: undef :: undef :: undef :: undef :: undef :: [])
     (fun _ w' => Below w3.heap.size w3 w') (phiP [pv (.slice (some ⟨cg, 0, none⟩) (s.size + 1) (s.size + 1)), pv (.pointer (some ⟨p, 1, none⟩)), pv (.int .i64 i), pv (.pointer (some ⟨q, 2, none⟩)), pv (.slice (some ⟨b, o, none⟩) rs.length k), pv (.int .i64 j), pv (.pointer (some ⟨b, o + j * 6, none⟩)), pv (.pointer (some ⟨b, o + j * 6, none⟩)), pv (.string x.p), pv (.int .i64 (x.p.size : Nat)), pv (.int .i64 tp), pv (.pointer (some ⟨cg, tp, none⟩)), pv (.slice (some ⟨gt, 0, none⟩) K K), pv (.pointer (some ⟨p, 5, none⟩)), pv (.slice LA K lk), pv (.agg #[.int .i64 ta, .int .i64 tb, .int .u8 tc]), pv (.int .i64 kk), pv (.pointer (some ⟨gt, kk, none⟩)), pv (.int .i64 hv)]) (fun i => match i with | 0 => undef | 1 => undef | 2 => undef | 3 => undef | 4 => undef | 5 => undef | 6 => undef | 7 => undef | 8 => undef | 9 => undef | 10 => undef | 11 => undef | 12 => undef | 13 => undef | 14 => undef | 15 => undef | 16 => undef | 17 => undef | 18 => undef | _ => undef)
     (by kernel_rfl) (by kernel_rfl) (by kernel_rfl) (by kernel_rfl) (fun i v wa wb h hb => phiP_keep (stay_cons (pv_st) (stay_cons (pv_st) (stay_cons (pv_st) (stay_cons (pv_st) (stay_cons (pv_st) (stay_cons (pv_st) (stay_cons (pv_st) (stay_cons (pv_st) (stay_cons (pv_st) (stay_cons (pv_st) (stay_cons (pv_st) (stay_cons (pv_st) (stay_cons (pv_st) (stay_cons (pv_st) (stay_cons (pv_st) (stay_cons (pv_st) (stay_cons (pv_st) (stay_cons (pv_st) (stay_cons (pv_st) stay_nil))))))))))))))))))) h hb) (Below.refl _ _).drew [0, 1, 2, 3, 4, 5, 6, 7, 8, 9, 10, 11, 12, 13, 14, 15, 16, 17, 18] (by kernel_rfl) ?_ ?_
    ·
     refine allCons ?_ (allCons ?_ (allCons ?_ (allCons ?_ (allCons ?_ (allCons ?_ (allCons ?_ (allCons ?_ (allCons ?_ (allCons ?_ (allCons ?_ (allCons ?_ (allCons ?_ (allCons ?_ (allCons ?_ (allCons ?_ (allCons ?_ (allCons ?_ (allCons ?_ (allNil)))))))))))))))))))
     all_goals intro y w10 K hS hd hK
     ·
      refine wpOp_step rfl (fun K2 hK2 => ?_)
      go_simp
      exact hK2 _ _ (hK _ _ hS rfl (Below.refl _ _))
     ·
      refine wpOp_step rfl (fun K2 hK2 => ?_)
      go_simp
      exact hK2 _ _ (hK _ _ hS rfl (Below.refl _ _))
     ·
      have e1 : y 1 = _ := hd 1 rfl
      obtain ⟨y, rfl⟩ := upd_at (y := y) (i := 1) e1
      dsimp [upd]
      have q1 := (hS.cell (p := ⟨p, 1, none⟩) hpl3).trans p1
      refine wpOp_step rfl (fun K2 hK2 => ?_)
      go_simp
      exact hK2 _ _ (hK _ _ hS rfl (Below.refl _ _))
     ·
      refine wpOp_step rfl (fun K2 hK2 => ?_)
      go_simp
      exact hK2 _ _ (hK _ _ hS rfl (Below.refl _ _))
     ·
      have e3 : y 3 = _ := hd 3 rfl
      obtain ⟨y, rfl⟩ := upd_at (y := y) (i := 3) e3
      dsimp [upd]
      have q2 := (hS.cell (p := ⟨q, 2, none⟩) hql3).trans t2
      refine wpOp_step rfl (fun K2 hK2 => ?_)
      go_simp
      exact hK2 _ _ (hK _ _ hS rfl (Below.refl _ _))
     ·
      refine wpOp_step rfl (fun K2 hK2 => ?_)
      go_simp
      exact hK2 _ _ (hK _ _ hS rfl (Below.refl _ _))
     ·
      have e4 : y 4 = _ := hd 4 rfl
      have e5 : y 5 = _ := hd 5 rfl
      obtain ⟨y, rfl⟩ := upd_at (y := y) (i := 4) e4
      obtain ⟨y, rfl⟩ := upd_at (y := y) (i := 5) e5
      dsimp [upd]
      refine wpOp_step rfl (fun K2 hK2 => ?_)
      go_simp
      exact hK2 _ _ (hK _ _ hS rfl (Below.refl _ _))
     ·
      have e6 : y 6 = _ := hd 6 rfl
      obtain ⟨y, rfl⟩ := upd_at (y := y) (i := 6) e6
      dsimp [upd]
      refine wpOp_step rfl (fun K2 hK2 => ?_)
      go_simp
      exact hK2 _ _ (hK _ _ hS rfl (Below.refl _ _))
     ·
      have e7 : y 7 = _ := hd 7 rfl
      obtain ⟨y, rfl⟩ := upd_at (y := y) (i := 7) e7
      dsimp [upd]
      have q3 := (hS.cell (p := ⟨b, o + j * 6, none⟩) hbW3).trans x0
      refine wpOp_step rfl (fun K2 hK2 => ?_)
      go_simp
      exact hK2 _ _ (hK _ _ hS rfl (Below.refl _ _))
     ·
      have e8 : y 8 = _ := hd 8 rfl
      obtain ⟨y, rfl⟩ := upd_at (y := y) (i := 8) e8
      dsimp [upd]
      refine wpOp_step rfl (fun K2 hK2 => ?_)
      go_simp
      exact hK2 _ _ (hK _ _ hS rfl (Below.refl _ _))
     ·
      have e2 : y 2 = _ := hd 2 rfl
      have e9 : y 9 = _ := hd 9 rfl
      obtain ⟨y, rfl⟩ := upd_at (y := y) (i := 2) e2
      obtain ⟨y, rfl⟩ := upd_at (y := y) (i := 9) e9
      dsimp [upd]
      refine wpOp_step rfl (fun K2 hK2 => ?_)
      go_simp
      try rw [hwr]
      exact hK2 _ _ (hK _ _ hS rfl (Below.refl _ _))
     ·
      have e0 : y 0 = _ := hd 0 rfl
      have e10 : y 10 = _ := hd 10 rfl
      obtain ⟨y, rfl⟩ := upd_at (y := y) (i := 0) e0
      obtain ⟨y, rfl⟩ := upd_at (y := y) (i := 10) e10
      dsimp [upd]
      refine wpOp_step rfl (fun K2 hK2 => ?_)
      go_simp
      exact hK2 _ _ (hK _ _ hS rfl (Below.refl _ _))
     ·
      have e11 : y 11 = _ := hd 11 rfl
      obtain ⟨y, rfl⟩ := upd_at (y := y) (i := 11) e11
      dsimp [upd]
      have q4 := (hS.cell (p := ⟨cg, tp, none⟩) hcgl).trans r0
      refine wpOp_step rfl (fun K2 hK2 => ?_)
      go_simp
      exact hK2 _ _ (hK _ _ hS rfl (Below.refl _ _))
     ·
      refine wpOp_step rfl (fun K2 hK2 => ?_)
      go_simp
      exact hK2 _ _ (hK _ _ hS rfl (Below.refl _ _))
     ·
      have e13 : y 13 = _ := hd 13 rfl
      obtain ⟨y, rfl⟩ := upd_at (y := y) (i := 13) e13
      dsimp [upd]
      have q5 := (hS.cell (p := ⟨p, 5, none⟩) hpl3).trans p5
      refine wpOp_step rfl (fun K2 hK2 => ?_)
      go_simp
      exact hK2 _ _ (hK _ _ hS rfl (Below.refl _ _))
     ·
      have s0 := (hS.cell (p := ⟨d, 0, none⟩) hdl3).trans d0
      have s1 := (hS.cell (p := ⟨d, 1, none⟩) hdl3).trans d1
      have s2 := (hS.cell (p := ⟨d, 2, none⟩) hdl3).trans d2
      refine wpOp_step rfl (fun K2 hK2 => ?_)
      go_simp
      exact hK2 _ _ (hK _ _ hS rfl (Below.refl _ _))
     ·
      have e14 : y 14 = _ := hd 14 rfl
      have e15 : y 15 = _ := hd 15 rfl
      obtain ⟨y, rfl⟩ := upd_at (y := y) (i := 14) e14
      obtain ⟨y, rfl⟩ := upd_at (y := y) (i := 15) e15
      dsimp [upd]
      refine wpOp_step rfl (fun K2 hK2 => ?_)
      go_simp
      refine (HIX.out w10 hS).mono ?_
      rintro e' w2 ⟨rfl, hb2⟩
      exact hK2 _ _ (hK _ _ (below_next hS hb2) rfl hb2)
     ·
      have e12 : y 12 = _ := hd 12 rfl
      have e16 : y 16 = _ := hd 16 rfl
      obtain ⟨y, rfl⟩ := upd_at (y := y) (i := 12) e12
      obtain ⟨y, rfl⟩ := upd_at (y := y) (i := 16) e16
      dsimp [upd]
      refine wpOp_step rfl (fun K2 hK2 => ?_)
      go_simp
      exact hK2 _ _ (hK _ _ hS rfl (Below.refl _ _))
     ·
      have e17 : y 17 = _ := hd 17 rfl
      obtain ⟨y, rfl⟩ := upd_at (y := y) (i := 17) e17
      dsimp [upd]
      have q6 := (hS.cell (p := ⟨gt, kk, none⟩) hgtl).trans r1
      refine wpOp_step rfl (fun K2 hK2 => ?_)
      go_simp
      exact hK2 _ _ (hK _ _ hS rfl (Below.refl _ _))
    ·
     intro y w10 f hS hd
     have e18 : y 18 = _ := hd 18 (by decide)
     clear hd
     obtain ⟨y, rfl⟩ := upd_at (y := y) (i := 18) e18
     dsimp [upd]
     refine wpAny_one (i := 19) (by kernel_rfl) ?_
     refine wpOp_step rfl (fun K2 hK2 => ?_)
     go_simp
     refine hK2 _ _ ?_
     clear hK2 K2 e18
     refine wpAny_done (by kernel_rfl) ?_ _
     have HB4 := Lib.hid (below_next HB3.out hS)
     have t2' := (hS.cell (p := ⟨q, 2, none⟩) hql3).trans t2
     have x1' := (hS.cell (p := ⟨b, o + j * 6 + 1, none⟩) hbW3).trans x1
     clear hS x0 x1 t2 p1 p5 d0 d1 d2 r0 r1
     have hb1 := hbd.1
     have hb2 := hbd.2
     clear hbd
     by_cases hng : hv < 0
     ·
      rw [if_pos hng] at HV
      go_wp2_with fail
      go_ret
      exact aft_end HV.out HB4.out
     ·
      rw [if_neg hng] at HV
      have hng2 : 0 ≤ hv := by omega
      go_wp2_with fail
      go_ret
      exact aft_end HV.out HB4.out
end Go.Proofs.Ytpkdlljefkbmpaa
