/- Merged by program: Tr4 Tr5 Tr6 -/
import Derived.Test.YtpkdlljefkbmpaaT1
import Derived.Test.YtpkdlljefkbmpaaQ1
import Derived.Test.YtpkdlljefkbmpaaQ17
import Derived.Test.YtpkdlljefkbmpaaQ23
import Derived.Test.YtpkdlljefkbmpaaQ15
import Derived.Deep.CutBlock
import Derived.Deep.CutRange

/-! Package translate: whether a rule applies at a place and lets the text go on. -/
namespace Go.Proofs.Ytpkdlljefkbmpaa
open Go.RowKit Go.Maps
theorem bytes_drop (s : ByteArray) (i : Nat) : bytes (s.extract i s.size) = (bytes s).drop i := by
 unfold bytes
 rw [← List.map_drop]
 congr 1
 have h : s.data.toList.length = s.size := Array.length_toList
 rw [ByteArray.data_extract, Array.toList_extract, List.extract_eq_take_drop, List.take_of_length_le (by rw [List.length_drop, h]; exact Nat.le_refl _)]
theorem fol_step {m a : Int} {rs : List Rule} (hG : GoodL m a rs) (hf : ∀ x ∈ rs, x.fits) {s : List Nat} {i : Nat} (hi : i ≤ s.length) {j : Nat} (hj : j < rs.length) (hp : (bytes rs[j].p).isPrefixOf (s.drop i) = true) :
  folB s rs[j] i = ((stepS rs (stV s i rs[j].f) (j : Int)).2 && !(bits .and .u8 (stepS rs (stV s i rs[j].f) (j : Int)).1.need (maskV (clsV s ((i + rs[j].p.size : Nat) : Int))) == 0)) := by
 have hb := clsV_bd s i
 have hm := mask_bd (clsV s i)
 have hfb := fcl_bd (s.drop i)
 obtain ⟨h1, h2⟩ := one_step hG hf hi (mo := rs[j].f) (ne := maskV (clsV s i)) (by omega) hm.2 hj hp
 have e : stV s i rs[j].f = ⟨rs[j].f, lcl (s.take i), maskV (clsV s i)⟩ := by unfold stV; rw [clsV_last s i hi]
 rw [e]
 have hbit : bitB (maskV (clsV s i)) (fcl (s.drop i)) = true := by rw [clsV_need, mask_bit _ _ hfb.1 hfb.2 hfb.1 hfb.2]; simp
 rw [Bool.eq_iff_iff, Bool.and_eq_true]
 cases hs : (stepS rs ⟨rs[j].f, lcl (s.take i), maskV (clsV s i)⟩ (j : Int)).2 with
 | false =>
  rw [hs] at h1
  constructor
  ·
   intro h
   exact absurd (h1.2 ⟨hbit, rfl, h⟩).1 (by decide)
  ·
   intro h; exact absurd h.1 (by decide)
 | true =>
  obtain ⟨ne', e2, g0, g1⟩ := h2 hs
  rw [hs] at h1
  have hb2 := clsV_bd s ((i + rs[j].p.size : Nat) : Int)
  rw [e2] at h1 ⊢
  rw [mask_and _ _ g0 g1 hb2.1 hb2.2, Bool.not_not, clsV_need]
  dsimp only at h1
  constructor
  ·
   intro h; exact ⟨rfl, (h1.2 ⟨hbit, rfl, h⟩).2⟩
  ·
   intro h; exact (h1.1 ⟨rfl, h.2⟩).2.2
def WkB (w : World) (q : Nat) (m a : Int) (A : Option Addr) (n k : Nat) (s : ByteArray) (PV SV CV : Value) : Prop := Blk w q 197 #[.int .i64 m, .int .u8 a, .slice A n k, .string s, PV, SV, CV]
theorem rules_row {w : World} {A : Option Addr} {rs : List Rule} (hR : Rules w w.heap.size A rs) {i : Nat} (hi : i < rs.length) : ∃ b o CA ck, A = some ⟨b, o, none⟩ ∧ b < w.heap.size ∧ w.cell? ⟨b, o + i * 6, none⟩ = some (.string (rs[i]'hi).p) ∧ w.cell? ⟨b, o + i * 6 + 1, none⟩ = some (.slice CA (rs[i]'hi).c.length ck) ∧ w.cell? ⟨b, o + i * 6 + 2, none⟩ = some (.int .u8 (rs[i]'hi).l) ∧ w.cell? ⟨b, o + i * 6 + 3, none⟩ = some (.int .u8 (rs[i]'hi).r) ∧ w.cell? ⟨b, o + i * 6 + 4, none⟩ = some (.int .i64 (rs[i]'hi).f) ∧ w.cell? ⟨b, o + i * 6 + 5, none⟩ = some (.int .i64 (rs[i]'hi).t) ∧ Seq w w.heap.size CA (rs[i]'hi).c ∧ (rs[i]'hi).fits := by
 obtain ⟨b, o, rfl, hb, hc⟩ := hR (by omega)
 obtain ⟨CA, ck, h0, h1, h2, h3, h4, h5, hs, hf⟩ := hc i hi
 exact ⟨b, o, CA, ck, rfl, hb, h0, h1, h2, h3, h4, h5, hs, hf⟩
theorem ret_ib {a b : Int} {v : Bool} (h : a = b) : Ending.returned (.tuple #[.int .i64 a, .bool v]) = .returned (.tuple #[.int .i64 b, .bool v]) := by rw [h]
def FolEnd (v : Bool) (tp : Nat) (w : World) (e : Ending) (w' : World) : Prop := e = .returned (.tuple #[.int .i64 (if v = true then (tp : Int) else 0), .bool v]) ∧ Below w.heap.size w w'
set_option maxRecDepth 10000 in
set_option maxHeartbeats 4000000 in
theorem follow_any (q : Nat) (m a : Int) (A : Option Addr) (n k : Nat) (rs : List Rule) (s : ByteArray) (PV SV CV : Value) (i j : Nat) (w : World) (hn : rs.length = n) (hR : Rules w w.heap.size A rs) (hG : GoodL m a rs) (hm : 1 ≤ m ∧ m ≤ 8) (hmax : n ≤ 64) (hs : s.size < 2 ^ 40) (hi : i ≤ s.size) (hj : j < rs.length) (hW : WkB w q m a A n k s PV SV CV) :
  Calls Try.prog 121 #[.pointer (some ⟨q, 0, none⟩), .int .i64 j, .int .i64 i] w (FolEnd (folB (bytes s) rs[j] i) (i + rs[j].p.size) w) := by
 obtain ⟨b, o, CA, ck, rfl, hb, c0, c1, c2, c3, c4, c5, hsq, hfit⟩ := rules_row hR hj
 have hmo := (modes_ok hG (List.getElem_mem hj)).1
 have hsz := sound_sizes hG (List.getElem_mem hj)
 have HFS := Lib.hid (fun h => fol_step hG hR.fit (s := bytes s) (i := i) (by rw [bytes_len]; exact hi) hj h)
 have HFN : Hid ((bytes rs[j].p).isPrefixOf ((bytes s).drop i) = false → folB (bytes s) rs[j] i = false) := fun h => by unfold folB; rw [h]; rfl
 have HPF : Hid ((bytes rs[j].p).isPrefixOf ((bytes s).drop i) = true → i + rs[j].p.size ≤ s.size) := fun h => by
  have := (pre_split h (by rw [bytes_len]; exact hi)).2.2
  rw [bytes_len, bytes_len] at this
  exact this
 obtain ⟨fb, hfb⟩ : ∃ fb, folB (bytes s) rs[j] i = fb := ⟨_, rfl⟩
 rw [hfb] at HFS HFN ⊢
 clear hfb
 have HN := Lib.hid hn
 have HR := Lib.hid hR
 have HG := Lib.hid hG
 obtain ⟨x, hx⟩ : ∃ x, rs[j] = x := ⟨_, rfl⟩
 rw [hx] at c0 c1 c2 c3 c4 c5 HFS HFN HPF hmo hsz hfit ⊢
 clear hx hR hG hsq
 obtain ⟨r, hr⟩ : ∃ r, (bytes x.p).isPrefixOf ((bytes s).drop i) = r := ⟨_, rfl⟩
 have hhas : ∀ W, Calls Try.prog 128 #[.string (s.extract i s.size), .string x.p] W fun e w' => e = .returned (.bool r) ∧ w' = W := fun W => (has_any _ _ W).mono fun e w' h => ⟨by rw [h.1, bytes_drop, hr], h.2.symm⟩
 rw [hr] at HFS HFN HPF
 clear hr
 have w0 := hW.cell 0
 have w1 := hW.cell 1
 have w2 := hW.cell 2
 have w3 := hW.cell 3
 simp only [List.getElem?_toArray, List.getElem?_cons_zero, List.getElem?_cons_succ] at w0 w1 w2 w3
 have hj0 : (0 : Int) ≤ (j : Int) := by omega
 have hjn : (j : Int) < (n : Int) := by omega
 have hi0 : (0 : Int) ≤ (i : Int) := by omega
 have hil : (i : Int) ≤ (s.size : Int) := by omega
 have hql := hW.lt
 have HBX : Hid (Below w.heap.size w (w.alloc (.cells #[.string x.p, .slice CA x.c.length ck, .int .u8 x.l, .int .u8 x.r, .int .i64 x.f, .int .i64 x.t] 99))) := below_box _ _ _
 have HX : Hid (Blk (w.alloc (.cells #[.string x.p, .slice CA x.c.length ck, .int .u8 x.l, .int .u8 x.r, .int .i64 x.f, .int .i64 x.t] 99)) w.heap.size 99 #[.string x.p, .slice CA x.c.length ck, .int .u8 x.l, .int .u8 x.r, .int .i64 x.f, .int .i64 x.t]) := Blk.new _ _ _
 have HWK : Hid (WkB (w.alloc (.cells #[.string x.p, .slice CA x.c.length ck, .int .u8 x.l, .int .u8 x.r, .int .i64 x.f, .int .i64 x.t] 99)) q m a (some ⟨b, o, none⟩) n k s PV SV CV) := hW.keep HBX.out hql
 clear hW
 go_enter Try.func121, Try.ntmps121
 go_upto_region 2 with fail
 generalize w.alloc (.cells #[.string x.p, .slice CA x.c.length ck, .int .u8 x.l, .int .u8 x.r, .int .i64 x.f, .int .i64 x.t] 99) = V at *
 obtain ⟨g, hg⟩ : ∃ g, w.heap.size = g := ⟨_, rfl⟩
 rw [hg] at HX
 simp only [hg]
 have HGW := Lib.hid hg
 clear hg w0 w1 w2 w3 c0 c1 c2 c3 c4 c5
 have w3 := HWK.out.cell 3
 have x0 := HX.out.cell 0
 simp only [List.getElem?_toArray, List.getElem?_cons_zero, List.getElem?_cons_succ] at w3 x0
 cases r with
 | false =>
  have hfb : fb = false := HFN.out rfl
  subst hfb
  go_quiet ((go_at_call 128; exact Calls.quiet_of_same (hhas _)))
  go_wp2_with fail
  go_ret2
  exact ⟨rfl, below_dN HBX.out⟩
 | true =>
  have htp := HPF.out rfl
  have HFR := Lib.hid (HFS.out rfl)
  have hst0 := stV_fits (bytes s) i x.f (by omega) (by omega)
  have HRR := Lib.hid (HR.out.up HBX.out)
  clear HFS HFN HPF HR
  go_quiet ((go_at_call 128; exact Calls.quiet_of_same (hhas _)))
  clear hhas w3 x0
  have hBD : Below V.heap.size V (V.drewN nq) := below_dN (Below.refl _ _)
  have HB2 := Lib.hid (below_next HBX.out hBD)
  have HX2 := Lib.hid (HX.out.keep hBD HX.out.lt)
  have HW2 := Lib.hid (HWK.out.keep hBD HWK.out.lt)
  have HR2 := Lib.hid (HRR.out.up hBD)
  clear hBD HX HWK HRR HBX
  generalize V.drewN nq = V2 at *
  have x0 := HX2.out.cell 0
  simp only [List.getElem?_toArray, List.getElem?_cons_zero] at x0
  go_upto_region 5 with fail
  have w0 := HW2.out.cell 0
  have w1 := HW2.out.cell 1
  have w2 := HW2.out.cell 2
  have w3 := HW2.out.cell 3
  have x4 := HX2.out.cell 4
  simp only [List.getElem?_toArray, List.getElem?_cons_zero, List.getElem?_cons_succ] at w0 w1 w2 w3 x4
  obtain ⟨k1, hk1⟩ : ∃ k1, clsV (bytes s) ((i : Int) - 1) = k1 := ⟨_, rfl⟩
  obtain ⟨k2, hk2⟩ : ∃ k2, maskV (clsV (bytes s) (i : Int)) = k2 := ⟨_, rfl⟩
  have hste : stV (bytes s) i x.f = ⟨x.f, k1, k2⟩ := by unfold stV; rw [hk1, hk2]
  have HSTA : Hid (∀ (W : World), W.cell? ⟨q, 3, none⟩ = some (.string s) → Calls Try.prog 155 #[.pointer (some ⟨q, 0, none⟩), .int .i64 i, .int .i64 x.f] W fun e w' => e = .returned (.agg #[.int .i64 x.f, .int .i64 k1, .int .u8 k2]) ∧ Below W.heap.size W w') := fun W h => by
   have h1 := wstate_any q s i x.f W ⟨hi0, by omega⟩ (World.block_lt_of_cell? W ⟨q, 3, none⟩ h) h
   rw [hste] at h1
   exact h1
  obtain ⟨⟨⟨ta, tb, tc⟩, okb⟩, hsr⟩ : ∃ sr, stepS rs (stV (bytes s) i x.f) (j : Int) = sr := ⟨_, rfl⟩
  have HSTP : Hid (∀ (W : World), Below V2.heap.size V2 W → Calls Try.prog 102 #[.agg #[.int .i64 m, .int .u8 a, .slice (some ⟨b, o, none⟩) n k], .agg #[.int .i64 x.f, .int .i64 k1, .int .u8 k2], .int .i64 j] W fun e w' => e = .returned (.tuple #[.agg #[.int .i64 ta, .int .i64 tb, .int .u8 tc], .bool okb]) ∧ Below W.heap.size W w') := fun W hW => by
   have h1 := step_any m a (some ⟨b, o, none⟩) n k rs (stV (bytes s) i x.f) j HN.out hst0 (by omega) W (HR2.out.up hW)
   rw [hsr, hste] at h1
   exact h1
  rw [hsr] at HFR
  have HFR2 : Hid (fb = (okb && !(bits .and .u8 tc (maskV (clsV (bytes s) ((i + x.p.size : Nat) : Int))) == 0))) := HFR.out
  have HX3 := Lib.hid HX2.out.lt
  have HQ3 := Lib.hid HW2.out.lt
  clear hsr hste hk1 hk2 hst0 HFR HX2 HW2 HR2 HG
  refine wp_region_mid2 16 0 (by kernel_rfl) (fun y => (.pointer (some ⟨q, 0, none⟩)) :: (.int .i64 ↑j) :: (.int .i64 ↑i) :: undef :: undef :: undef :: (.int .i64 0) :: (.bool false) :: (.pointer (some ⟨g, 0, none⟩)) :: (.int .i64 (↑i + ↑x.p.size)) :: y 14 :: undef :: (.pointer (some ⟨q, 0, none⟩)) :: (.pointer (some ⟨q, 0, none⟩)) :: (.pointer (some ⟨q, 0, none⟩)) :: (.pointer (some ⟨q, 2, none⟩)) :: (.slice (some ⟨b, o, none⟩) n k) :: (.int .i64 ↑j) :: (.pointer (some ⟨b, o + j * 6, none⟩)) :: (.agg #[Value.string x.p, .slice CA x.c.length ck, .int .u8 x.l, .int .u8 x.r, .int .i64 x.f, .int .i64 x.t]) :: (.pointer (some ⟨q, 0, none⟩)) :: (.pointer (some ⟨q, 0, none⟩)) :: (.pointer (some ⟨q, 3, none⟩)) :: (.string s) :: (.int .i64 ↑i) :: (.string (s.extract i s.size)) :: (.pointer (some ⟨g, 0, none⟩)) :: (.string x.p) :: (.bool true) :: (.bool false) :: (.int .i64 ↑i) :: (.pointer (some ⟨g, 0, none⟩)) :: (.string x.p) :: (.int .i64 ↑x.p.size) :: (.int .i64 (↑i + ↑x.p.size)) :: y 11 :: y 0 :: y 1 :: y 2 :: y 3 :: y 4 :: y 5 :: y 6 :: y 7 :: y 8 :: y 9 :: y 10 :: y 12 :: y 13 :: undef :: undef :: undef :: undef :: undef :: undef :: undef :: undef :: undef :: undef :: undef :: undef :: []) (stG V2 (⟨ta, tb, tc⟩ : St) 14 15) (phiG V2 [(.pointer (some ⟨q, 0, none⟩)), (.pointer (some ⟨q, 0, none⟩)), (.pointer (some ⟨q, 0, none⟩)), (.agg #[.int .i64 m, .int .u8 a, .slice (some ⟨b, o, none⟩) n k]), (.pointer (some ⟨q, 0, none⟩)), (.int .i64 i), (.pointer (some ⟨g, 4, none⟩)), (.int .i64 x.f), (.agg #[.int .i64 x.f, .int .i64 k1, .int .u8 k2]), (.int .i64 j), (.tuple #[.agg #[.int .i64 ta, .int .i64 tb, .int .u8 tc], .bool okb]), (.tuple #[.agg #[.int .i64 ta, .int .i64 tb, .int .u8 tc], .bool okb]), (.agg #[.int .i64 ta, .int .i64 tb, .int .u8 tc]), (.bool okb), undef] 14) (fun i => match i with | 0 => undef | 1 => undef | 2 => undef | 3 => undef | 4 => undef | 5 => undef | 6 => undef | 7 => undef | 8 => undef | 9 => undef | 10 => undef | 11 => undef | 12 => undef | 13 => undef | 14 => undef | _ => undef)
   (by kernel_rfl) (by kernel_rfl) (by kernel_rfl) (by kernel_rfl) ?_ [0, 1, 2, 3, 4, 5, 6, 7, 8, 9, 10, 11, 12, 13, 14, 15] (by kernel_rfl) ?_ ?_
  ·
   exact ⟨(Below.refl _ _).drew, fun h => by cases h⟩
  ·
   refine allCons ?_ (allCons ?_ (allCons ?_ (allCons ?_ (allCons ?_ (allCons ?_ (allCons ?_ (allCons ?_ (allCons ?_ (allCons ?_ (allCons ?_ (allCons ?_ (allCons ?_ (allCons ?_ (allCons ?_ (allCons ?_ (allNil))))))))))))))))
   all_goals intro bl y w10 K3 hbi hS hd hK3
   ·
    refine wpOp_step rfl (fun K2 hK2 => ?_)
    go_simp
    exact hK2 _ _ (hK3 _ _ (stG_same hS (by decide) (Below.refl _ _)) rfl (fun _ _ h => h))
   ·
    have e0 : y 0 = _ := (hd 0 rfl).2
    obtain ⟨y, rfl⟩ := upd_at (y := y) (i := 0) e0
    dsimp [upd]
    refine wpOp_step rfl (fun K2 hK2 => ?_)
    go_simp
    exact hK2 _ _ (hK3 _ _ (stG_same hS (by decide) (Below.refl _ _)) rfl (fun _ _ h => h))
   ·
    have e1 : y 1 = _ := (hd 1 rfl).2
    obtain ⟨y, rfl⟩ := upd_at (y := y) (i := 1) e1
    dsimp [upd]
    refine wpOp_step rfl (fun K2 hK2 => ?_)
    go_simp
    exact hK2 _ _ (hK3 _ _ (stG_same hS (by decide) (Below.refl _ _)) rfl (fun _ _ h => h))
   ·
    have e2 : y 2 = _ := (hd 2 rfl).2
    obtain ⟨y, rfl⟩ := upd_at (y := y) (i := 2) e2
    dsimp [upd]
    have q0 := (hS.1.cell (p := ⟨q, 0, none⟩) HQ3.out).trans w0
    have q1 := (hS.1.cell (p := ⟨q, 1, none⟩) HQ3.out).trans w1
    have q2 := (hS.1.cell (p := ⟨q, 2, none⟩) HQ3.out).trans w2
    refine wpOp_step rfl (fun K2 hK2 => ?_)
    go_simp
    exact hK2 _ _ (hK3 _ _ (stG_same hS (by decide) (Below.refl _ _)) rfl (fun _ _ h => h))
   ·
    refine wpOp_step rfl (fun K2 hK2 => ?_)
    go_simp
    exact hK2 _ _ (hK3 _ _ (stG_same hS (by decide) (Below.refl _ _)) rfl (fun _ _ h => h))
   ·
    refine wpOp_step rfl (fun K2 hK2 => ?_)
    go_simp
    exact hK2 _ _ (hK3 _ _ (stG_same hS (by decide) (Below.refl _ _)) rfl (fun _ _ h => h))
   ·
    refine wpOp_step rfl (fun K2 hK2 => ?_)
    go_simp
    exact hK2 _ _ (hK3 _ _ (stG_same hS (by decide) (Below.refl _ _)) rfl (fun _ _ h => h))
   ·
    have e6 : y 6 = _ := (hd 6 rfl).2
    obtain ⟨y, rfl⟩ := upd_at (y := y) (i := 6) e6
    dsimp [upd]
    have q4 := (hS.1.cell (p := ⟨g, 4, none⟩) HX3.out).trans x4
    refine wpOp_step rfl (fun K2 hK2 => ?_)
    go_simp
    exact hK2 _ _ (hK3 _ _ (stG_same hS (by decide) (Below.refl _ _)) rfl (fun _ _ h => h))
   ·
    have e4 : y 4 = _ := (hd 4 rfl).2
    have e5 : y 5 = _ := (hd 5 rfl).2
    have e7 : y 7 = _ := (hd 7 rfl).2
    obtain ⟨y, rfl⟩ := upd_at (y := y) (i := 4) e4
    obtain ⟨y, rfl⟩ := upd_at (y := y) (i := 5) e5
    obtain ⟨y, rfl⟩ := upd_at (y := y) (i := 7) e7
    dsimp [upd]
    refine wpOp_step rfl (fun K2 hK2 => ?_)
    go_simp
    refine (HSTA.out w10 ((hS.1.cell (p := ⟨q, 3, none⟩) HQ3.out).trans w3)).mono ?_
    rintro e' w2 ⟨rfl, hb⟩
    exact hK2 _ _ (hK3 _ _ (stG_same hS (by decide) hb) rfl (fun _ _ h => phiG_below hb h))
   ·
    refine wpOp_step rfl (fun K2 hK2 => ?_)
    go_simp
    exact hK2 _ _ (hK3 _ _ (stG_same hS (by decide) (Below.refl _ _)) rfl (fun _ _ h => h))
   ·
    have e3 : y 3 = _ := (hd 3 rfl).2
    have e8 : y 8 = _ := (hd 8 rfl).2
    have e9 : y 9 = _ := (hd 9 rfl).2
    obtain ⟨y, rfl⟩ := upd_at (y := y) (i := 3) e3
    obtain ⟨y, rfl⟩ := upd_at (y := y) (i := 8) e8
    obtain ⟨y, rfl⟩ := upd_at (y := y) (i := 9) e9
    dsimp [upd]
    refine wpOp_step rfl (fun K2 hK2 => ?_)
    go_simp
    refine (HSTP.out w10 hS.1).mono ?_
    rintro e' w2 ⟨rfl, hb⟩
    exact hK2 _ _ (hK3 _ _ (stG_same hS (by decide) hb) rfl (fun _ _ h => phiG_below hb h))
   ·
    have e10 : y 10 = _ := (hd 10 rfl).2
    obtain ⟨y, rfl⟩ := upd_at (y := y) (i := 10) e10
    dsimp [upd]
    refine wpOp_step rfl (fun K2 hK2 => ?_)
    go_simp
    exact hK2 _ _ (hK3 _ _ (stG_same hS (by decide) (Below.refl _ _)) rfl (fun _ _ h => h))
   ·
    have e11 : y 11 = _ := (hd 11 rfl).2
    obtain ⟨y, rfl⟩ := upd_at (y := y) (i := 11) e11
    dsimp [upd]
    refine wpOp_step rfl (fun K2 hK2 => ?_)
    go_simp
    exact hK2 _ _ (hK3 _ _ (stG_same hS (by decide) (Below.refl _ _)) rfl (fun _ _ h => h))
   ·
    have e11 : y 11 = _ := (hd 11 rfl).2
    obtain ⟨y, rfl⟩ := upd_at (y := y) (i := 11) e11
    dsimp [upd]
    refine wpOp_step rfl (fun K2 hK2 => ?_)
    go_simp
    exact hK2 _ _ (hK3 _ _ (stG_same hS (by decide) (Below.refl _ _)) rfl (fun _ _ h => h))
   ·
    refine wpOp_step rfl (fun K2 hK2 => ?_)
    go_simp
    exact hK2 _ _ (hK3 _ _ (stG_alloc hS (by decide) hbi _) ⟨_, rfl, hS.1.size, _, _, _, Blk.new _ _ _⟩ (fun _ _ h => phiG_below (below_box _ _ _) h))
   ·
    have e12 : y 12 = .agg #[.int .i64 (⟨ta, tb, tc⟩ : St).mode, .int .i64 (⟨ta, tb, tc⟩ : St).last, .int .u8 (⟨ta, tb, tc⟩ : St).need] := (hd 12 rfl).2
    obtain ⟨hb10, g, e10, hg, za, zb, zc, hB⟩ := hd 14 rfl
    have hS2 := stG_store (v := undef) hS (by decide) hb10 e10 hg hB
    obtain ⟨y, rfl⟩ := upd_at (y := y) (i := 12) e12
    obtain ⟨y, rfl⟩ := upd_at (y := y) (i := 14) e10
    dsimp [upd]
    have d0 := hB.cell 0
    have d1 := hB.cell 1
    have d2 := hB.cell 2
    have f0 := hB.free 0
    have f1 := hB.free 1
    have f2 := hB.free 2
    simp only [List.getElem?_toArray, List.getElem?_cons_zero, List.getElem?_cons_succ] at d0 d1 d2
    refine wpOp_step rfl (fun K2 hK2 => ?_)
    go_simp
    exact hK2 _ _ (hK3 undef _ hS2 trivial (fun _ _ hφ => phiG_store hφ))
  ·
   intro bl y w10 f hall hS hd
   obtain ⟨_, g10, e10, hg10, hB10⟩ := hS.2 (hall 15 (by decide))
   have hb10 := hS.1
   have e13 : y 13 = _ := hd 13 (by decide)
   clear hd
   obtain ⟨y, rfl⟩ := upd_at (y := y) (i := 13) e13
   obtain ⟨y, rfl⟩ := upd_at (y := y) (i := 14) e10
   dsimp [upd]
   refine wpAny_one (i := 16) (by kernel_rfl) ?_
   refine wpOp_step rfl (fun K2 hK2 => ?_)
   go_simp
   refine hK2 _ _ ?_
   clear hK2 K2 e13 e10
   refine wpAny_done (by kernel_rfl) ?_ _
   have HB10 := Lib.hid (below_next HB2.out hb10)
   have q3 := (hb10.cell (p := ⟨q, 3, none⟩) HQ3.out).trans w3
   have d2 := hB10.cell 2
   simp only [List.getElem?_toArray, List.getElem?_cons_zero, List.getElem?_cons_succ] at d2
   have HFR3 : Hid (fb = (okb && !(bits .and .u8 tc (maskV (clsV (bytes s) ((i : Int) + (x.p.size : Int)))) == 0))) := by
    have h := HFR2.out
    rw [Int.natCast_add] at h
    exact h
   have hnd := fun W h => quiet_flip (wneed_any q s ((i : Int) + (x.p.size : Int)) W h)
   generalize maskV (clsV (bytes s) ((i : Int) + (x.p.size : Int))) = kz at *
   clear hb10 hB10 hg10 w0 w1 w2 w3 x0 x4 HSTA HSTP HFR2 HB2 hS
   have q3d : (w10.drew).cell? ⟨q, 3, none⟩ = some (.string s) := q3
   go_upto_region 6 with fail
   cases okb with
   | false =>
    obtain rfl : fb = false := HFR3.out
    go_quiet ((go_at_call 158; exact Calls.quiet_of_same (hnd _ (by assumption))))
    go_wp2_with fail
    go_ret2
    exact ⟨rfl, below_dN HB10.out⟩
   | true =>
    obtain ⟨zb, hzb⟩ : ∃ zb, (bits .and .u8 tc kz == 0) = zb := ⟨_, rfl⟩
    have HFR4 : Hid (fb = !zb) := by unfold Hid; rw [HFR3.out, hzb]; rfl
    clear HFR3
    cases zb with
    | true =>
     obtain rfl : fb = false := HFR4.out
     go_quiet ((go_at_call 158; exact Calls.quiet_of_same (hnd _ (by assumption))))
     go_wp2_with fail
     go_ret2
     exact ⟨rfl, below_dN HB10.out⟩
    | false =>
     obtain rfl : fb = true := HFR4.out
     go_quiet ((go_at_call 158; exact Calls.quiet_of_same (hnd _ (by assumption))))
     go_wp2_with fail
     go_ret2
     exact ⟨ret_ib (by rw [if_pos rfl]; exact (Int.natCast_add _ _).symm), below_dN HB10.out⟩
structure CoM (w : World) (cg L M lo : Nat) (g : Nat → Nat) (h : Tb) : Prop where
 co : Blk w cg 43 (rowOf (fun i => if lo ≤ i then .slice (some ⟨g i, 0, none⟩) M M else .slice none 0 0) L)
 ro : ∀ i, lo ≤ i → i < L → Blk w (g i) 3 (rowOf (fun mo => .int .i64 (h i mo : Nat)) M)
 inj : ∀ i j, lo ≤ i → i < j → j < L → g i ≠ g j
theorem CoM.keep {w w' : World} {cg L M lo : Nat} {g : Nat → Nat} {h : Tb} (H : CoM w cg L M lo g h) (hb : Below w.heap.size w w') : CoM w' cg L M lo g h :=
 ⟨H.co.keep hb H.co.lt, fun i h1 h2 => (H.ro i h1 h2).keep hb (H.ro i h1 h2).lt, H.inj⟩
theorem imp_lit : (9223372036854775803 : Int) = ((imp : Nat) : Int) := by decide
theorem by_bound {c v : Nat} (hc : c ≤ 4) (hv : v ≤ imp) : IntKind.i64.wrap ((c : Int) + (v : Int)) = (c : Int) + (v : Int) := IntWalk.i64_in _ (by unfold imp at hv; omega)
def ByEnd (v : Nat) (w : World) (e : Ending) (w' : World) : Prop := e = .returned (.int .i64 (v : Nat)) ∧ Below w.heap.size w w'
set_option maxRecDepth 10000 in
set_option maxHeartbeats 4000000 in
theorem by_any (q : Nat) (m a : Int) (A : Option Addr) (n k : Nat) (rs : List Rule) (s : ByteArray) (PV SV : Value) (cg ck0 M lo : Nat) (g : Nat → Nat) (h : Tb) (i j : Nat) (w : World) (hn : rs.length = n) (hR : Rules w w.heap.size A rs) (hG : GoodL m a rs) (hm : 1 ≤ m ∧ m ≤ 8) (hM : m = M) (hmax : n ≤ 64) (hs : s.size < 2 ^ 40) (hi : i ≤ s.size) (hlo : lo ≤ i) (hj : j < rs.length) (hW : WkB w q m a A n k s PV SV (.slice (some ⟨cg, 0, none⟩) (s.size + 1) ck0)) (hC : CoM w cg (s.size + 1) M lo g h) (hh : ∀ i' mo, lo ≤ i' → i' ≤ s.size → mo < M → h i' mo ≤ imp) :
  Calls Try.prog 157 #[.pointer (some ⟨q, 0, none⟩), .int .i64 j, .int .i64 i] w (ByEnd (byV h (bytes s) rs[j] i) w) := by
 have HFA := Lib.hid (follow_any q m a A n k rs s PV SV (.slice (some ⟨cg, 0, none⟩) (s.size + 1) ck0) i j w hn hR hG hm hmax hs hi hj hW)
 have HBV : Hid (byV h (bytes s) rs[j] i = if folB (bytes s) rs[j] i = true then rs[j].c.length + h (i + rs[j].p.size) rs[j].t.toNat else imp) := rfl
 have HTO : Hid (folB (bytes s) rs[j] i = true → i + rs[j].p.size ≤ s.size) := fun h => by
  have := (pre_split (fol_pre h) (by rw [bytes_len]; exact hi)).2.2
  rw [bytes_len, bytes_len] at this
  exact this
 have hmo := (modes_ok hG (List.getElem_mem hj)).2
 have hsz := (sound_sizes hG (List.getElem_mem hj)).2
 have HN := Lib.hid hn
 have HR := Lib.hid hR
 have HC := Lib.hid hC
 have HH := Lib.hid hh
 have HW := Lib.hid hW
 obtain ⟨vb, hvb⟩ : ∃ vb, byV h (bytes s) rs[j] i = vb := ⟨_, rfl⟩
 rw [hvb] at HBV ⊢
 obtain ⟨fb, hfb⟩ : ∃ fb, folB (bytes s) rs[j] i = fb := ⟨_, rfl⟩
 rw [hfb] at HBV HTO HFA
 clear hvb hfb hR hC hh hW hG
 go_enter Try.func157, Try.ntmps157
 go_wp2_with fail
 refine HFA.out.mono ?_
 clear HFA
 rintro e w1 ⟨rfl, hb1⟩
 have HB1 := Lib.hid hb1
 have HRW := Lib.hid (rules_row (HR.out.up hb1) hj)
 have HWK := Lib.hid (HW.out.keep hb1 HW.out.lt)
 have HCW := Lib.hid (HC.out.keep hb1)
 clear hb1 HR HW HC
 cases fb with
 | false =>
  have HV : Hid (vb = imp) := HBV.out
  go_wp2_with fail
  go_ret
  exact ⟨ret_int (by rw [HV.out]; exact imp_lit), HB1.out⟩
 | true =>
  have HV : Hid (vb = rs[j].c.length + h (i + rs[j].p.size) rs[j].t.toNat) := HBV.out
  have hto := HTO.out rfl
  clear HBV HTO
  have HHR := Lib.hid (HH.out (i + rs[j].p.size) rs[j].t.toNat (by omega) hto (by omega))
  have HRO := Lib.hid (HCW.out.ro (i + rs[j].p.size) (by omega) (by omega))
  obtain ⟨b, o, CA, ck, rfl, hb, c0, c1, c2, c3, c4, c5, hsq, hfit⟩ := HRW.out
  clear HRW hsq hfit
  have hto' : i ≤ i + rs[j].p.size := Nat.le_add_right _ _
  generalize rs[j] = x at *
  obtain ⟨mt, hmt⟩ : ∃ mt : Nat, x.t = (mt : Int) := ⟨x.t.toNat, by omega⟩
  rw [hmt] at c5 HV HHR
  rw [Int.toNat_natCast] at HV HHR
  generalize i + x.p.size = tp at *
  have hmtM : mt < M := by omega
  obtain ⟨hv, hhv⟩ : ∃ hv, h tp mt = hv := ⟨_, rfl⟩
  have r0 := HRO.out.cell mt
  rw [rowOf_get _ _ _ hmtM] at r0
  have g0 := HCW.out.co.cell tp
  rw [rowOf_get _ _ _ (by omega), if_pos (by omega)] at g0
  rw [hhv] at r0 HV HHR
  have HBX : Hid (Below w1.heap.size w1 (w1.alloc (.cells #[.string x.p, .slice CA x.c.length ck, .int .u8 x.l, .int .u8 x.r, .int .i64 x.f, .int .i64 mt] 99))) := below_box _ _ _
  have HX : Hid (Blk (w1.alloc (.cells #[.string x.p, .slice CA x.c.length ck, .int .u8 x.l, .int .u8 x.r, .int .i64 x.f, .int .i64 mt] 99)) w1.heap.size 99 #[.string x.p, .slice CA x.c.length ck, .int .u8 x.l, .int .u8 x.r, .int .i64 x.f, .int .i64 mt]) := Blk.new _ _ _
  have r1 := (HBX.out.cell (p := ⟨g tp, mt, none⟩) HRO.out.lt).trans r0
  have g1 := (HBX.out.cell (p := ⟨cg, tp, none⟩) HCW.out.co.lt).trans g0
  have k6 := (HBX.out.cell (p := ⟨q, 6, none⟩) HWK.out.lt).trans (HWK.out.cell 6)
  have w2 := HWK.out.cell 2
  have hsum := by_bound hsz.2 HHR.out
  simp only [List.getElem?_toArray, List.getElem?_cons_zero, List.getElem?_cons_succ] at w2 k6
  have hj0 : (0 : Int) ≤ (j : Int) := by omega
  have hjn : (j : Int) < (n : Int) := by have := HN.out; omega
  have ht0 : (0 : Int) ≤ (tp : Int) := by omega
  have htl : (tp : Int) < ((s.size + 1 : Nat) : Int) := by omega
  have hu0 : (0 : Int) ≤ (mt : Int) := by omega
  have hul : (mt : Int) < (M : Int) := by omega
  clear r0 g0 HRO hhv
  go_upto_region 5 with fail
  generalize w1.alloc (.cells #[.string x.p, .slice CA x.c.length ck, .int .u8 x.l, .int .u8 x.r, .int .i64 x.f, .int .i64 mt] 99) = V at *
  obtain ⟨gx, hgx⟩ : ∃ gx, w1.heap.size = gx := ⟨_, rfl⟩
  rw [hgx] at HX
  simp only [hgx]
  have HGX := Lib.hid hgx
  clear hgx w2 c0 c1 c2 c3 c4 c5
  have x1 := HX.out.cell 1
  have x5 := HX.out.cell 5
  simp only [List.getElem?_toArray, List.getElem?_cons_zero, List.getElem?_cons_succ] at x1 x5
  go_quiet (fail)
  go_wp2_with fail
  go_ret
  exact ⟨ret_int (by rw [HV.out]; exact (Int.natCast_add _ _).symm), below_next HB1.out (below_dN HBX.out)⟩
end Go.Proofs.Ytpkdlljefkbmpaa

/-! Package translate: the costs at a place as far as no rule is needed. -/
namespace Go.Proofs.Ytpkdlljefkbmpaa
open Go.RowKit Go.Maps
theorem clsI_pos (b : Int) : 1 ≤ clsI b := by unfold clsI; (repeat' split) <;> decide
theorem acc_end {a : Int} {l : List Nat} {i : Nat} {mo : Int} (hi : i ≤ l.length) : accB a (stV l i mo) = finP a l (i, mo) := by
 unfold accB stV finP
 dsimp only
 have hb := clsV_bd l i
 rw [mask_bit _ _ hb.1 hb.2 (by decide) (by decide), Bool.and_comm]
 congr 1
 rw [Bool.eq_iff_iff, decide_eq_true_eq, decide_eq_true_eq]
 unfold clsV
 rw [if_neg (by omega), Int.toNat_natCast]
 rcases Nat.lt_or_ge i l.length with h | h
 ·
  rw [List.getElem?_eq_getElem h]
  have := clsI_pos (l[i] : Nat)
  dsimp only
  omega
 ·
  rw [List.getElem?_eq_none h]
  dsimp only
  omega
def endV (a : Int) (l : List Nat) (i mo : Nat) : Nat := if finP a l (i, (mo : Int)) = true then 0 else imp
theorem make_int (w : World) (n : Nat) (hn : n < 2 ^ 43) :
  (Instr.makeSlice 43 (.int .i64 n) (.int .i64 n)).run Try.prog w = .ok (.slice (some ⟨w.heap.size, 0, none⟩) n n) (w.alloc (.cells (rowOf (fun _ => .int .i64 0) n) 3)) := by
 obtain ⟨i0, hi, hz0, hz1, hz2⟩ := info_parts info_int
 have := run_make (P := Try.prog) w 43 3 i0 (.int .i64 0) Try.underlying43 hi hz0 .i64 .i64 n n (by omega) (by omega) (by rw [hz2]; omega) (by omega)
 rw [this, hz1, ← made_row]; simp [Value.cells]
theorem make_rows (w : World) (n : Nat) (hn : n < 2 ^ 42) :
  (Instr.makeSlice 72 (.int .i64 n) (.int .i64 n)).run Try.prog w = .ok (.slice (some ⟨w.heap.size, 0, none⟩) n n) (w.alloc (.cells (rowOf (fun _ => .slice none 0 0) n) 43)) := by
 obtain ⟨i0, hi, hz0, hz1, hz2⟩ := info_parts info_ints
 have := run_make (P := Try.prog) w 72 43 i0 (.slice none 0 0) Try.underlying72 hi hz0 .i64 .i64 n n (by omega) (by omega) (by rw [hz2]; omega) (by omega)
 rw [this, hz1, ← made_row]; simp [Value.cells]
def EndsEnd (a : Int) (l : List Nat) (i M : Nat) (w : World) (e : Ending) (w' : World) : Prop := ∃ gb, e = .returned (.slice (some ⟨gb, 0, none⟩) M M) ∧ w.heap.size ≤ gb ∧ Blk w' gb 3 (rowOf (fun mo => .int .i64 (endV a l i mo : Nat)) M) ∧ Below w.heap.size w w'
theorem row_next {f : Nat → Nat} {j M v : Nat} (hv : f j = v) : (rowOf (fun mo => .int .i64 ((if mo < j then f mo else 0 : Nat) : Int)) M).setIfInBounds j (.int .i64 (v : Nat)) = rowOf (fun mo => .int .i64 ((if mo < j + 1 then f mo else 0 : Nat) : Int)) M :=
 rowOf_set _ _ _ _ _ (by rw [if_pos (by omega), hv]) (fun b hb => by
  rcases Nat.lt_or_ge b j with g | g
  ·
   rw [if_pos g, if_pos (by omega)]
  ·
   rw [if_neg (by omega), if_neg (by omega)])
set_option maxRecDepth 10000 in
set_option maxHeartbeats 4000000 in
theorem ends_any (q : Nat) (m a : Int) (A : Option Addr) (n k : Nat) (s : ByteArray) (PV SV CV : Value) (i M : Nat) (w : World) (hm : 1 ≤ m ∧ m ≤ 8) (ha : 0 ≤ a ∧ a < 256) (hM : m = M) (hs : s.size < 2 ^ 40) (hi : i ≤ s.size) (hW : WkB w q m a A n k s PV SV CV) :
  Calls Try.prog 118 #[.pointer (some ⟨q, 0, none⟩), .int .i64 i] w (EndsEnd a (bytes s) i M w) := by
 subst hM
 have HW := Lib.hid hW
 have w0 := hW.cell 0
 simp only [List.getElem?_toArray, List.getElem?_cons_zero] at w0
 have hM0 : (0 : Int) ≤ (M : Int) := by omega
 clear hW
 have hmk := make_int w M (by omega)
 have HB0 : Hid (Below w.heap.size w (w.alloc (.cells (rowOf (fun _ => .int .i64 0) M) 3))) := below_box _ _ _
 have HR0 : Hid (Blk (w.alloc (.cells (rowOf (fun _ => .int .i64 0) M) 3)) w.heap.size 3 (rowOf (fun mo => .int .i64 ((if mo < 0 then endV a (bytes s) i mo else 0 : Nat) : Int)) M)) := by
  have h := Blk.new w (rowOf (fun _ => .int .i64 0) M) 3
  rw [rowOf_congr (g := fun mo => .int .i64 ((if mo < 0 then endV a (bytes s) i mo else 0 : Nat) : Int)) (fun mo _ => by rw [if_neg (by omega)]; rfl)] at h
  exact h
 go_enter Try.func118, Try.ntmps118
 go_wp2_with fail
 clear hmk w0
 generalize w.alloc (.cells (rowOf (fun _ => .int .i64 0) M) 3) = V at *
 obtain ⟨gb, hgb⟩ : ∃ gb, w.heap.size = gb := ⟨_, rfl⟩
 rw [hgb] at HR0
 simp only [hgb]
 have HGB := Lib.hid hgb
 clear hgb
 have HWV : Hid (WkB V q M a A n k s PV SV CV) := HW.out.keep HB0.out HW.out.lt
 go_loopw [15] (fun x wr => ∃ j : Nat, x = .int .i64 j ∧ j ≤ M ∧ Blk wr gb 3 (rowOf (fun mo => .int .i64 ((if mo < j then endV a (bytes s) i mo else 0 : Nat) : Int)) M) ∧ Below w.heap.size w wr) (fun x _ => M - (intOf x).toNat)
 case atStart => exact ⟨0, rfl, Nat.zero_le _, HR0.out, HB0.out⟩
 case round =>
  obtain ⟨j, rfl, hj, hR, hB⟩ := hrel
  have HR := Lib.hid hR
  have HB := Lib.hid hB
  have HWR : Hid (WkB wr q M a A n k s PV SV CV) := HW.out.keep hB HW.out.lt
  clear hR hB
  have hj0 : (0 : Int) ≤ (j : Int) := by omega
  by_cases hlt : j < M
  ·
   have hjn : (j : Int) < (M : Int) := by omega
   have HAE : Hid (accB a (stV (bytes s) i j) = finP a (bytes s) (i, (j : Int))) := acc_end (by rw [bytes_len]; exact hi)
   have HFT : Hid (stV (bytes s) i j).fits := stV_fits (bytes s) i j hj0 (by omega)
   have HEV : Hid (endV a (bytes s) i j = if finP a (bytes s) (i, (j : Int)) = true then 0 else imp) := rfl
   obtain ⟨fb, hfb⟩ : ∃ fb, finP a (bytes s) (i, (j : Int)) = fb := ⟨_, rfl⟩
   rw [hfb] at HAE HEV
   clear hfb
   have hS : Below wr.heap.size wr wr.drew ∧ wr.drew.cell? ⟨q, 0, none⟩ = some (.int .i64 M) ∧ wr.drew.cell? ⟨q, 1, none⟩ = some (.int .u8 a) ∧ wr.drew.cell? ⟨q, 2, none⟩ = some (.slice A n k) ∧ wr.drew.cell? ⟨q, 3, none⟩ = some (.string s) := ⟨(Below.refl _ _).drew, HWR.out.cell 0, HWR.out.cell 1, HWR.out.cell 2, HWR.out.cell 3⟩
   obtain ⟨sv, hsv⟩ : ∃ sv, stV (bytes s) i j = sv := ⟨_, rfl⟩
   have HSTA : Hid (∀ (W : World) {P0 P1 P2 P3 : Prop}, P0 ∧ P1 ∧ P2 ∧ P3 ∧ W.cell? ⟨q, 3, none⟩ = some (.string s) → Calls Try.prog 155 #[.pointer (some ⟨q, 0, none⟩), .int .i64 i, .int .i64 j] W fun e w' => e = .returned (.agg #[.int .i64 sv.mode, .int .i64 sv.last, .int .u8 sv.need]) ∧ Below W.heap.size W w') := fun W _ _ _ _ h => by
    have h1 := wstate_any q s i j W ⟨by omega, by omega⟩ (World.block_lt_of_cell? W ⟨q, 3, none⟩ h.2.2.2.2) h.2.2.2.2
    rw [hsv] at h1
    exact h1
   rw [hsv] at HAE HFT
   have HACC : Hid (∀ (W : World), Calls Try.prog 151 #[.agg #[.int .i64 M, .int .u8 a, .slice A n k], .agg #[.int .i64 sv.mode, .int .i64 sv.last, .int .u8 sv.need]] W fun e w' => e = .returned (.bool fb) ∧ Below W.heap.size W w') := fun W => by
    have h1 := accepts_any M a A n k sv ha HFT.out W
    rw [HAE.out] at h1
    exact h1
   obtain ⟨sm, sl, sn⟩ := sv
   dsimp only at HSTA HACC
   clear hsv HAE HFT
   go_upto_region 5 with fail
   go_region_held3 (fun w' => Below wr.heap.size wr w' ∧ w'.cell? ⟨q, 0, none⟩ = some (.int .i64 M) ∧ w'.cell? ⟨q, 1, none⟩ = some (.int .u8 a) ∧ w'.cell? ⟨q, 2, none⟩ = some (.slice A n k) ∧ w'.cell? ⟨q, 3, none⟩ = some (.string s)) (first | assumption | (apply kept4; (first | assumption | exact Below.drew (Below.refl _ _) | exact below_box _ _ _); assumption))
    (first
     | (go_at_call 155; refine (HSTA.out _ (by assumption)).mono ?_; rintro e wa ⟨rfl, hba⟩)
     | (go_at_call 151; refine (HACC.out _).mono ?_; rintro e wb ⟨rfl, hbb⟩))
   rename_i hheld
   have HBB : Hid (Below wr.heap.size wr wb) := hheld.1
   clear hheld hba hbb hS
   have HRB := Lib.hid (HR.out.keep HBB.out HR.out.lt)
   have HB2 : Hid (Below w.heap.size w wb) := below_next HB.out HBB.out
   clear HBB HR HB HWR HSTA HACC
   cases fb with
   | true =>
    have HRN : Hid (Blk wb gb 3 (rowOf (fun mo => .int .i64 ((if mo < j + 1 then endV a (bytes s) i mo else 0 : Nat) : Int)) M)) := by
     have h := HRB.out
     rw [rowOf_congr (g := fun mo => .int .i64 ((if mo < j + 1 then endV a (bytes s) i mo else 0 : Nat) : Int)) (fun mo _ => by
      by_cases e : mo = j
      ·
       subst e; rw [if_neg (by omega), if_pos (by omega), HEV.out]; rfl
      ·
       by_cases g : mo < j
       ·
        rw [if_pos g, if_pos (by omega)]
       ·
        rw [if_neg g, if_neg (by omega)])] at h
     exact h
    clear HRB HEV
    go_wp2_with fail
    exact ⟨⟨j + 1, by go_num, hlt, HRN.out, HB2.out⟩, by simp [intOf]; omega⟩
   | false =>
    have HN := Lib.hid (row_next (f := endV a (bytes s) i) (M := M) (j := j) (v := imp) (by rw [HEV.out]; rfl))
    have f0 := HRB.out.free j
    have c0 := HRB.out.cell j
    rw [rowOf_get _ _ _ hlt] at c0
    have HRN : Hid (Blk (wb.setCell ⟨gb, j, none⟩ (.int .i64 9223372036854775803)) gb 3 (rowOf (fun mo => .int .i64 ((if mo < j + 1 then endV a (bytes s) i mo else 0 : Nat) : Int)) M)) := by
     have h := HRB.out.set j (.int .i64 9223372036854775803)
     rw [imp_lit, HN.out] at h
     rw [imp_lit]
     exact h
    have HB3 : Hid (Below w.heap.size w (wb.setCell ⟨gb, j, none⟩ (.int .i64 9223372036854775803))) := HB2.out.setCell (by show w.heap.size ≤ gb; rw [HGB.out]; exact Nat.le_refl _) _
    clear HRB HEV HN
    go_wp2_with fail
    exact ⟨⟨j + 1, by go_num, hlt, HRN.out, HB3.out⟩, by simp [intOf]; omega⟩
  ·
   obtain rfl : j = M := by omega
   have HEND : Hid (EndsEnd a (bytes s) i j w (.returned (.slice (some ⟨gb, 0, none⟩) j j)) wr) := by
    have h := HR.out
    rw [rowOf_congr (g := fun mo => .int .i64 (endV a (bytes s) i mo : Nat)) (fun mo hmo => by rw [if_pos hmo])] at h
    exact ⟨gb, rfl, by rw [HGB.out]; exact Nat.le_refl _, h, HB.out⟩
   clear HR HB HWR
   go_wp2_with fail
   go_ret
   exact HEND.out
end Go.Proofs.Ytpkdlljefkbmpaa

/-! Package translate: the memory of a work; the closure that lets a rule decrease a cost. -/
namespace Go.Proofs.Ytpkdlljefkbmpaa
open Go.RowKit Go.Maps
structure OwnN (w : World) (B B1 : Nat) (v : Value) (ns : List Nat) : Prop where
 own : w.ownsRow B 3 1 v ns.length (ns.map fun i : Nat => Value.int .i64 i)
 blk : ∀ b, v.ownBlock = some b → b < B1
theorem OwnN.keep {w w' : World} {B B1 : Nat} {v : Value} {ns : List Nat} (h : OwnN w B B1 v ns) (hb : Below w.heap.size w w') : OwnN w' B B1 v ns := ⟨own_keep h.own hb, h.blk⟩
theorem OwnN.move {w w' : World} {B B1 : Nat} {v : Value} {ns : List Nat} (h : OwnN w B B1 v ns) (hk : ∀ b, b < B1 → (∃ cur, Blk w b 3 cur) → w'.heap[b]? = w.heap[b]?) : OwnN w' B B1 v ns :=
 ⟨own_move h.own fun b hb => hk b (h.blk b hb) (own_blk h.own hb), h.blk⟩
structure WkM (w0 : World) (q : Nat) (m a : Int) (A : Option Addr) (n k : Nat) (rs : List Rule) (s : ByteArray) (PV SV : Value) (ps ss : List Nat) (cg M B1 lo : Nat) (g : Nat → Nat) (h : Tb) (w : World) : Prop where
 wk : WkB w q m a A n k s PV SV (.slice (some ⟨cg, 0, none⟩) (s.size + 1) (s.size + 1))
 co : CoM w cg (s.size + 1) M lo g h
 pr : OwnN w w0.heap.size B1 PV ps
 si : OwnN w w0.heap.size B1 SV ss
 ru : Rules w0 w0.heap.size A rs
 bb : Below w0.heap.size w0 w
 bq : w0.heap.size ≤ q ∧ w0.heap.size ≤ cg ∧ w0.heap.size ≤ B1 ∧ B1 ≤ w.heap.size
 bg : ∀ i, lo ≤ i → i ≤ s.size → B1 ≤ g i
section
variable {w0 w w' : World} {q : Nat} {m a : Int} {A : Option Addr} {n k : Nat} {rs : List Rule} {s : ByteArray} {PV SV : Value} {ps ss : List Nat} {cg M B1 lo : Nat} {g : Nat → Nat} {h : Tb}
theorem WkM.rules (H : WkM w0 q m a A n k rs s PV SV ps ss cg M B1 lo g h w) : Rules w w.heap.size A rs := (H.ru.keep H.bb).more H.bb.size
theorem WkM.next (H : WkM w0 q m a A n k rs s PV SV ps ss cg M B1 lo g h w) (hb : Below w.heap.size w w') : WkM w0 q m a A n k rs s PV SV ps ss cg M B1 lo g h w' :=
 ⟨H.wk.keep hb H.wk.lt, H.co.keep hb, H.pr.keep hb, H.si.keep hb, H.ru, below_next H.bb hb, ⟨H.bq.1, H.bq.2.1, H.bq.2.2.1, by have := H.bq.2.2.2; have := hb.size; omega⟩, H.bg⟩
theorem row_put (h : Tb) (i mo v M : Nat) : (rowOf (fun b => .int .i64 (h i b : Nat)) M).setIfInBounds mo (.int .i64 (v : Nat)) = rowOf (fun b => .int .i64 (h.put i mo v i b : Nat)) M :=
 rowOf_set _ _ _ _ _ (by rw [put_same]) (fun b hb => by rw [put_col _ _ _ _ _ hb])
theorem WkM.put (H : WkM w0 q m a A n k rs s PV SV ps ss cg M B1 lo g h w) {i : Nat} (hi : lo ≤ i) (hs : i ≤ s.size) (mo v : Nat) : WkM w0 q m a A n k rs s PV SV ps ss cg M B1 lo g (h.put i mo v) (w.setCell ⟨g i, mo, none⟩ (.int .i64 (v : Nat))) := by
 have key : ∀ b, b ≠ g i → (w.setCell ⟨g i, mo, none⟩ (.int .i64 (v : Nat))).heap[b]? = w.heap[b]? := fun b hb => Below.heap_setCell _ ⟨g i, mo, none⟩ _ b hb
 have hr := H.co.ro i hi (by omega)
 have hB := H.bg i hi hs
 have hsz : (w.setCell ⟨g i, mo, none⟩ (.int .i64 (v : Nat))).heap.size = w.heap.size := by simp
 refine ⟨(key q (fun e => Blk.type_ne H.wk hr (by decide) e)).trans H.wk, ⟨(key cg (fun e => Blk.type_ne H.co.co hr (by decide) e)).trans H.co.co, fun i' h1 h2 => ?_, H.co.inj⟩, H.pr.move fun b h1 _ => key b (by omega), H.si.move fun b h1 _ => key b (by omega), H.ru, H.bb.setCell (by show w0.heap.size ≤ g i; have := H.bq.2.2.1; omega) _, ⟨H.bq.1, H.bq.2.1, H.bq.2.2.1, by rw [hsz]; exact H.bq.2.2.2⟩, H.bg⟩
 by_cases e : i' = i
 ·
  subst e
  have h3 := (H.co.ro i' h1 h2).set mo (.int .i64 (v : Nat))
  rw [row_put] at h3
  exact h3
 ·
  have hne : g i' ≠ g i := by
   rcases Nat.lt_or_ge i' i with g1 | g1
   ·
    exact H.co.inj i' i h1 g1 (by omega)
   ·
    exact (H.co.inj i i' hi (by omega) h2).symm
  have h3 := (key (g i') hne).trans (H.co.ro i' h1 h2)
  rw [rowOf_congr (g := fun b => .int .i64 (h.put i mo v i' b : Nat)) (fun b _ => by rw [put_row _ _ _ _ _ _ e])] at h3
  exact h3
end
def Tb.dec (h : Tb) (i mo v : Nat) : Tb := if v < h i mo then h.put i mo v else h
def DecEnd (w0 : World) (q : Nat) (m a : Int) (A : Option Addr) (n k : Nat) (rs : List Rule) (s : ByteArray) (PV SV : Value) (ps ss : List Nat) (cg M B1 lo : Nat) (g : Nat → Nat) (h : Tb) (i mo v : Nat) (w : World) (e : Ending) (w' : World) : Prop :=
 e = .returned (.bool (decide (v < h i mo))) ∧ WkM w0 q m a A n k rs s PV SV ps ss cg M B1 lo g (h.dec i mo v) w' ∧ (∀ b, b < w.heap.size → b ≠ g i → w'.heap[b]? = w.heap[b]?) ∧ w.heap.size ≤ w'.heap.size
set_option maxRecDepth 10000 in
set_option maxHeartbeats 4000000 in
theorem decr_any (w0 : World) (q : Nat) (m a : Int) (A : Option Addr) (n k : Nat) (rs : List Rule) (s : ByteArray) (PV SV : Value) (ps ss : List Nat) (cg M B1 : Nat) (g : Nat → Nat) (h : Tb) (c2 c3 c4 i j : Nat) (w : World) (hn : rs.length = n) (hG : GoodL m a rs) (hm : 1 ≤ m ∧ m ≤ 8) (hM : m = M) (hmax : n ≤ 64) (hs : s.size < 2 ^ 40) (hi : i ≤ s.size) (hj : j < rs.length)
  (H : WkM w0 q m a A n k rs s PV SV ps ss cg M B1 i g h w) (hh : ∀ i' mo, i ≤ i' → i' ≤ s.size → mo < M → h i' mo ≤ imp) (b2 : Blk w c2 123 #[.pointer (some ⟨q, 0, none⟩)]) (b3 : Blk w c3 3 #[.int .i64 i]) (b4 : Blk w c4 43 #[.slice (some ⟨g i, 0, none⟩) M M]) :
  Calls Try.prog 156 #[.int .i64 j, .pointer (some ⟨c2, 0, none⟩), .pointer (some ⟨c3, 0, none⟩), .pointer (some ⟨c4, 0, none⟩)] w (DecEnd w0 q m a A n k rs s PV SV ps ss cg M B1 i g h i rs[j].f.toNat (byV h (bytes s) rs[j] i) w) := by
 have HBY := Lib.hid (by_any q m a A n k rs s PV SV cg (s.size + 1) M i g h i j w hn H.rules hG hm hM hmax hs hi (Nat.le_refl _) hj H.wk H.co hh)
 obtain ⟨b, o, CA, ck, rfl, hb, c0, c1, c5, c6, c7, c8, hsq, hfit⟩ := rules_row H.rules hj
 have hmo := (modes_ok hG (List.getElem_mem hj)).1
 have HH := Lib.hid H
 have hro := H.co.ro i (Nat.le_refl _) (by omega)
 have HB2 := Lib.hid b2
 have HB3 := Lib.hid b3
 have HB4 := Lib.hid b4
 have p2 := b2.cell 0
 have p3 := b3.cell 0
 have w2 := H.wk.cell 2
 simp only [List.getElem?_toArray, List.getElem?_cons_zero, List.getElem?_cons_succ] at p2 p3 w2
 obtain ⟨v, hv⟩ : ∃ v, byV h (bytes s) rs[j] i = v := ⟨_, rfl⟩
 rw [hv] at HBY ⊢
 obtain ⟨mo, hmf⟩ : ∃ mo : Nat, rs[j].f = (mo : Int) := ⟨rs[j].f.toNat, by omega⟩
 have hmoM : mo < M := by omega
 rw [hmf] at c7 ⊢
 rw [Int.toNat_natCast]
 have hj0 : (0 : Int) ≤ (j : Int) := by omega
 have hjn : (j : Int) < (n : Int) := by omega
 have hi0 : (0 : Int) ≤ (i : Int) := by omega
 have hu0 : (0 : Int) ≤ (mo : Int) := by omega
 have hul : (mo : Int) < (M : Int) := by omega
 clear hv hmf H b2 b3 b4 hsq hfit c0 c1 c5 c6 c8 hro
 go_enter Try.func156, Try.ntmps156
 go_wp2_with fail
 refine HBY.out.mono ?_
 clear HBY
 rintro e w1 ⟨rfl, hb1⟩
 have HH1 := Lib.hid (HH.out.next hb1)
 have HR1 := Lib.hid (HH1.out.co.ro i (Nat.le_refl _) (by omega))
 have HP4 := Lib.hid (HB4.out.keep hb1 HB4.out.lt)
 have HBW := Lib.hid hb1
 clear hb1 p2 p3 w2 c7 HH HB2 HB3 HB4
 have p4 := HP4.out.cell 0
 have r0 := HR1.out.cell mo
 have f0 := HR1.out.free mo
 rw [rowOf_get _ _ _ hmoM] at r0
 simp only [List.getElem?_toArray, List.getElem?_cons_zero] at p4
 obtain ⟨hv, hhv⟩ : ∃ hv, h i mo = hv := ⟨_, rfl⟩
 rw [hhv] at r0
 have HHV := Lib.hid hhv
 clear hhv
 by_cases hlt : v < hv
 ·
  have hle : ¬ (hv : Int) ≤ (v : Int) := by omega
  have HE : Hid (DecEnd w0 q m a (some ⟨b, o, none⟩) n k rs s PV SV ps ss cg M B1 i g h i mo v w (.returned (.bool true)) (w1.setCell ⟨g i, mo, none⟩ (.int .i64 (v : Nat)))) := by
   refine ⟨?_, ?_, fun b1 h1 h2 => (Below.heap_setCell _ ⟨g i, mo, none⟩ _ b1 h2).trans (HBW.out.block b1 h1), ?_⟩
   ·
    rw [HHV.out, decide_eq_true hlt]
   ·
    unfold Tb.dec
    rw [HHV.out, if_pos hlt]
    exact HH1.out.put (Nat.le_refl _) hi mo v
   ·
    simp; exact HBW.out.size
  go_wp2_with fail
  go_ret
  exact HE.out
 ·
  have hle : (hv : Int) ≤ (v : Int) := by omega
  have HE : Hid (DecEnd w0 q m a (some ⟨b, o, none⟩) n k rs s PV SV ps ss cg M B1 i g h i mo v w (.returned (.bool false)) w1) := by
   refine ⟨?_, ?_, fun b1 h1 _ => HBW.out.block b1 h1, HBW.out.size⟩
   ·
    rw [HHV.out, decide_eq_false hlt]
   ·
    unfold Tb.dec
    rw [HHV.out, if_neg hlt]
    exact HH1.out
  go_wp2_with fail
  go_ret
  exact HE.out
end Go.Proofs.Ytpkdlljefkbmpaa
