/- Merged by program: Tq9 Tq10 Tq11 -/
import Derived.Test.YtpkdlljefkbmpaaT13
import Derived.Test.YtpkdlljefkbmpaaT9
import Derived.Test.YtpkdlljefkbmpaaT6
import Derived.Test.YtpkdlljefkbmpaaT12
import Derived.Test.YtpkdlljefkbmpaaQ22

/-! The reference of package translate, purely: following the first rule that keeps the cost gives the best list. -/
namespace Go.Proofs.Ytpkdlljefkbmpaa
open Go.RowKit Go.Maps
theorem bestE_tail {ν : Type} {E : ν → Int → Option ν} {c : Int → Nat} {F : ν → Bool} {v u : ν} {k : Int} {r : List Int} (h : BestE E c F v (k :: r)) (hE : E v k = some u) : BestE E c F u r := by
 obtain ⟨x, h1, h2⟩ := gdE_cons.1 h.1
 rw [hE] at h1
 cases h1
 refine ⟨h2, fun ls hl => ?_⟩
 obtain ⟨h3, h4⟩ := h.2 (k :: ls) (gdE_cons.2 ⟨u, hE, hl⟩)
 simp only [cstE] at h3 h4
 refine ⟨by omega, fun e => ?_⟩
 have h5 := h4 (by omega)
 unfold lessL at h5
 rw [if_pos rfl] at h5
 exact h5
def CstH (a : Int) (rs : List Rule) (s : List Nat) (H : Nat × St → Int) : Prop := ∀ v : Nat × St, v.1 ≤ s.length → v.2 ∈ (theG rs).1 → CostV a rs s v (H v)
def PrtR (a : Int) (rs : List Rule) (s : List Nat) (P done : List Int) (v : Nat × St) : Prop := ∃ rest, P = done ++ rest ∧ goE (edgR rs s) (0, St.start) done = some v ∧ BestE (edgR rs s) (cstR rs) (finR a s) v rest ∧ v.1 ≤ s.length ∧ v.2 ∈ (theG rs).1
section
variable {m a : Int} {rs : List Rule} {s : List Nat} {H : Nat × St → Int} {P done : List Int} {v : Nat × St}
theorem prt_end (hG : GoodL m a rs) (_hf : ∀ x ∈ rs, x.fits) (hH : CstH a rs s H) (h : PrtR a rs s P done v) (h0 : ¬ 0 < H v) : done = P := by
 obtain ⟨rest, h1, h2, h3, h4, h5⟩ := h
 have e := costV_one (hH v h4 h5) (.inr ⟨rest, h3.min, rfl⟩)
 have hr := cstE_pos (fun v k u he => (edgR_cst hG v k u he).1) h3.1 (by omega)
 rw [h1, hr, List.append_nil]
theorem prt_step (hG : GoodL m a rs) (hf : ∀ x ∈ rs, x.fits) (hm : 1 ≤ m ∧ m ≤ 8) (hH : CstH a rs s H) (h : PrtR a rs s P done v) (h0 : 0 < H v) : ∃ j : Nat, ∃ hj : j < rs.length, aftV rs s H v j = H v ∧ (∀ i, i < j → aftV rs s H v i ≠ H v) ∧ (stepS rs v.2 (j : Int)).2 = true ∧ v.1 + rs[j].p.size ≤ s.length ∧ (stepS rs v.2 (j : Int)).1 ∈ (theG rs).1 ∧ PrtR a rs s P (done ++ [(j : Int)]) (v.1 + rs[j].p.size, (stepS rs v.2 (j : Int)).1) ∧ H (v.1 + rs[j].p.size, (stepS rs v.2 (j : Int)).1) < H v ∧ 0 ≤ H (v.1 + rs[j].p.size, (stepS rs v.2 (j : Int)).1) := by
 obtain ⟨rest, h1, h2, h3, h4, h5⟩ := h
 have e := costV_one (hH v h4 h5) (.inr ⟨rest, h3.min, rfl⟩)
 cases rest with
 | nil => simp only [cstE] at e; omega
 | cons k r =>
  obtain ⟨u, hu, hgr⟩ := gdE_cons.1 h3.1
  obtain ⟨j, rfl, hj, hs, hp, rfl⟩ := edgR_some hu
  obtain ⟨g1, g2, g3⟩ := edgR_in hG hf hm h4 h5 hu
  have hb := bestE_tail h3 hu
  have eu := costV_one (hH _ g2 g3) (.inr ⟨r, hb.min, rfl⟩)
  have hc := (edgR_cst hG _ _ _ hu).1
  simp only [cstE] at e
  refine ⟨j, hj, ?_, fun i hi he => ?_, hs, g2, g3, ⟨r, by rw [h1]; simp, ?_, hb, g2, g3⟩, by omega, by omega⟩
  ·
   rw [aft_some hu, if_neg (by omega)]; omega
  ·
   obtain ⟨y, hy, hy0, hye⟩ := aft_pos (H := H) (v := v) (r := i) (rs := rs) (s := s) (by omega)
   obtain ⟨_, q2, q3⟩ := edgR_in hG hf hm h4 h5 hy
   rcases hH y q2 q3 with ⟨q4, _⟩ | ⟨q, q4, q5⟩
   ·
    omega
   ·
    have h7 := (h3.2 ((i : Int) :: q) (gdE_cons.2 ⟨y, hy, q4.1⟩)).2 (by simp only [cstE]; omega)
    unfold lessL at h7
    rw [if_neg (by omega), decide_eq_false_iff_not] at h7
    omega
  ·
   rw [goE_app, h2]
   exact goE_cons.2 ⟨_, hu, rfl⟩
theorem prt_start (_hG : GoodL m a rs) (_hf : ∀ x ∈ rs, x.fits) (hb : BestE (edgR rs s) (cstR rs) (finR a s) (0, St.start) P) : PrtR a rs s P [] (0, St.start) := ⟨P, rfl, rfl, hb, Nat.zero_le _, List.mem_of_getElem? (theG_first rs)⟩
end
end Go.Proofs.Ytpkdlljefkbmpaa

/-! The reference of package translate: Write. -/
namespace Go.Proofs.Ytpkdlljefkbmpaa
open Go.RowKit Go.Maps
theorem wpOp_append_base {P : Program} {ops : Array Oper} {j : Nat} {o : Oper} {a : Act} {w : World} {K : Act → World → Prop} {Q : Exit → Act → World → Prop} (base : Nat) (hbase : base ≤ w.heap.size) (hj : ops[j]? = some o) (hgd : o.guard = none) (s x : Operand) (t : TypeId)
  (ho : o.op = .call { callee := .builtin .append, args := #[s, x], argTypes := #[t, t] })
  (e : TypeId) (i : TypeInfo) (z : Value) (size bytes : Nat) (ht : P.underlying t = some (.slice e)) (hi : P.info? e = some i) (hz : i.zero = some z)
  (hsize : i.size = size) (hby : i.bytes = bytes) (hzs : z.cells.size = size) (hsz : 0 < size)
  (v : Value) (n : Nat) (xs : List Value) (hs : a.eval s = v) (hown : w.ownsRow base e size v n xs)
  (ad : Addr) (m c : Nat) (news : List Value) (hx : a.eval x = .slice (some ad) m c) (hl : news.length = m * size) (hnews : ∀ j u, news[j]? = some u → w.cell? (ad.add j) = some u) (h1 : ∀ u ∈ news, u.oneCell' = true)
  (h63 : n + m ≤ maxLen) (hbytes : (n + m) * bytes ≤ 140737488355328)
  (h : ∀ v' w', w'.ownsRow base e size v' (n + m) (xs ++ news) → w.grownBy w' v.ownBlock → (v'.ownBlock = v.ownBlock ∨ v'.ownBlock = some w.heap.size) → K (a.put o.dst v') w') : wpOp P ops Q j K a w := by
 refine wpOp_step hj fun K2 hK2 => ?_
 have hw : Region.wanted o (yielded ops a.tmps) = true := by simp [Region.wanted, hgd]
 rw [if_pos hw]
 obtain ⟨v', w', hr, h2, h3, _, h5⟩ := run_append_own_at (P := P) w base t o.type e i z size bytes ht hi hz hsize hby hzs hsz v n xs hown ad m c news hl hnews h1 h63 hbytes hbase
 unfold Oper.wp execOp
 simp only [ho, resolve, invoke, builtin, Sem.run_bind, Sem.run_pure, Result.andThen_ok, List.map_toArray, List.map_cons, List.map_nil, hs, hx, hr]
 exact hK2 _ _ (h v' w' h2 h3 h5)
structure LR (B0 zl at0 : Nat) (cs ks : List Int) (CV PV : Value) (w : World) : Prop where
 ho : Blk w zl 64 #[CV, PV, .int .i64 at0, .int .i64 0]
 hc : w.ownsRow B0 96 1 CV cs.length (cs.map (Value.int .u8))
 hp : w.ownsRow B0 3 1 PV ks.length (ks.map (Value.int .i64))
section
variable {B0 zl at0 : Nat} {cs ks : List Int} {CV PV v : Value} {w w' : World}
theorem LR.next (H : LR B0 zl at0 cs ks CV PV w) (hb : Below w.heap.size w w') : LR B0 zl at0 cs ks CV PV w' := ⟨H.ho.keep hb H.ho.lt, own_keep H.hc hb, own_keep H.hp hb⟩
theorem LR.other (H : LR B0 zl at0 cs ks CV PV w) (h1 : w'.heap[zl]? = w.heap[zl]?) (hk : ∀ b, B0 ≤ b → w'.heap[b]? = w.heap[b]?) : LR B0 zl at0 cs ks CV PV w' :=
 ⟨h1.trans H.ho, own_move H.hc fun b hb => hk b (H.hc.lt b hb).1, own_move H.hp fun b hb => hk b (H.hp.lt b hb).1⟩
theorem LR.addK {k : Int} (H : LR B0 zl at0 cs ks CV PV w) (ho : w'.ownsRow B0 3 1 v (ks.length + 1) (ks.map (Value.int .i64) ++ [.int .i64 k])) (hg : w.grownBy w' PV.ownBlock) : LR B0 zl at0 cs (ks ++ [k]) CV v (w'.setCell ⟨zl, 1, none⟩ v) := by
 have h1 : Blk w' zl 64 _ := (hg.block zl H.ho.lt (own_ne3 H.hp H.ho (by decide)).symm).trans H.ho
 have h3 := own_other H.hc H.hp hg (by decide)
 refine ⟨h1.set 1 v, own_set h3 h1 (by decide) v, ?_⟩
 have h4 := own_set (i := 1) ho h1 (by decide) v
 simpa using h4
theorem LR.addC {x : List Int} (H : LR B0 zl at0 cs ks CV PV w) (ho : w'.ownsRow B0 96 1 v (cs.length + x.length) (cs.map (Value.int .u8) ++ x.map (Value.int .u8))) (hg : w.grownBy w' CV.ownBlock) : LR B0 zl at0 (cs ++ x) ks v PV (w'.setCell ⟨zl, 0, none⟩ v) := by
 have h1 : Blk w' zl 64 _ := (hg.block zl H.ho.lt (own_ne3 H.hc H.ho (by decide)).symm).trans H.ho
 have h3 := own_other H.hp H.hc hg (by decide)
 refine ⟨h1.set 0 v, ?_, own_set h3 h1 (by decide) v⟩
 have h4 := own_set (i := 0) ho h1 (by decide) v
 simpa using h4
end
def Wr6End (a : Int) (rs : List Rule) (l : List Nat) (w : World) (e : Ending) (w' : World) : Prop :=
 ∃ CA ck PA pk cs ks pl er, e = .returned (.agg #[.slice CA cs.length ck, .slice PA ks.length pk, .int .i64 (pl : Nat), .int .i64 er]) ∧ Seq w' w'.heap.size CA cs ∧ SeqN w' w'.heap.size PA ks ∧ WrR a rs l cs ks pl er ∧ (0 < ks.length → ∃ b o cur, PA = some ⟨b, o, none⟩ ∧ Blk w' b 3 cur) ∧ Below w.heap.size w w'
def put4 (w : World) (r : Nat) (v0 v1 v2 v3 : Value) : World := (((w.setCell ⟨r, 0, none⟩ v0).setCell ⟨r, 1, none⟩ v1).setCell ⟨r, 2, none⟩ v2).setCell ⟨r, 3, none⟩ v3
theorem put4_blk {w : World} {r : Nat} {u0 u1 u2 u3 : Value} (h : Blk w r 64 #[u0, u1, u2, u3]) (v0 v1 v2 v3 : Value) : Blk (put4 w r v0 v1 v2 v3) r 64 #[v0, v1, v2, v3] :=
 (((h.set 0 v0).set 1 v1).set 2 v2).set 3 v3
theorem put4_key {w : World} {r : Nat} {v0 v1 v2 v3 : Value} {b : Nat} (hb : b ≠ r) : (put4 w r v0 v1 v2 v3).heap[b]? = w.heap[b]? := by
 unfold put4
 rw [Below.heap_setCell _ ⟨r, 3, none⟩ _ b hb, Below.heap_setCell _ ⟨r, 2, none⟩ _ b hb, Below.heap_setCell _ ⟨r, 1, none⟩ _ b hb, Below.heap_setCell _ ⟨r, 0, none⟩ _ b hb]
theorem put4_below {w w0 : World} {B r : Nat} {v0 v1 v2 v3 : Value} (h : Below B w0 w) (hr : B ≤ r) : Below B w0 (put4 w r v0 v1 v2 v3) := (((h.setCell hr _).setCell hr _).setCell hr _).setCell hr _
theorem own_int {w : World} {base k : Nat} {A : Option Addr} {K : List Int} (h : w.ownsRow base 3 1 (.slice A K.length k) K.length (K.map (Value.int .i64))) (h0 : 0 < K.length) : ∃ b o cur, A = some ⟨b, o, none⟩ ∧ Blk w b 3 cur := by
 obtain ⟨b, e, _⟩ := own_cells h (j := 0) (x := .int .i64 K[0]) (by rw [List.getElem?_map, List.getElem?_eq_getElem h0]; rfl)
 subst e
 obtain ⟨cur, hc⟩ := own_blk h (b := b) rfl
 exact ⟨b, 0, cur, rfl, hc⟩
theorem lenR_cst {m a : Int} {rs : List Rule} (hG : GoodL m a rs) {s : List Nat} : ∀ (ks : List Int) (v u : Nat × St), goE (edgR rs s) v ks = some u → ks.length ≤ cstE (cstR rs) ks := by
 intro ks
 induction ks with
 | nil => intro v u _; exact Nat.zero_le _
 | cons k r ih =>
  intro v u h
  obtain ⟨x, h1, h2⟩ := goE_cons.1 h
  have := ih x u h2
  have := (edgR_cst hG v k x h1).1
  simp only [cstE, List.length_cons]
  omega
set_option maxRecDepth 10000 in
set_option maxHeartbeats 8000000 in
theorem write6_any (m a : Int) (A : Option Addr) (n k : Nat) (rs : List Rule) (s : ByteArray) (w : World) (hn : rs.length = n) (hR : Rules w w.heap.size A rs) (hG : GoodL m a rs) (hmax : n ≤ 64) (hm : 1 ≤ m ∧ m ≤ 8) (ha : 0 ≤ a ∧ a < 256) (hs : s.size < 2 ^ 28) :
  Calls Try.prog 33 #[.agg #[.int .i64 m, .int .u8 a, .slice A n k], .string s] w (Wr6End a rs (bytes s) w) := by
 subst hn
 obtain ⟨K, hK⟩ : ∃ K, (theG rs).1.length = K := ⟨_, rfl⟩
 have hft := hR.fit
 have hK1 : K ≤ 3072 := by rw [← hK]; exact (theG_ok hG hft hm.1).le ⟨by omega, hm.2⟩
 have hK2 : 0 < K := by rw [← hK]; exact (List.getElem?_eq_some_iff.1 (theG_first rs)).1
 have HKE := Lib.hid hK
 have HG := Lib.hid hG
 have HFT := Lib.hid hft
 have HTE := Lib.hid (textE_all (bytes s))
 have HP0 : Hid (Blk ((w.alloc (.cells #[.int .i64 m, .int .u8 a, .slice A rs.length k] 30)).alloc (.cells #[.slice none 0 0, .slice none 0 0, .int .i64 0, .int .i64 0] 64)) w.heap.size 30 #[.int .i64 m, .int .u8 a, .slice A rs.length k] ∧ Blk ((w.alloc (.cells #[.int .i64 m, .int .u8 a, .slice A rs.length k] 30)).alloc (.cells #[.slice none 0 0, .slice none 0 0, .int .i64 0, .int .i64 0] 64)) (w.heap.size + 1) 64 #[.slice none 0 0, .slice none 0 0, .int .i64 0, .int .i64 0] ∧ Below w.heap.size w ((w.alloc (.cells #[.int .i64 m, .int .u8 a, .slice A rs.length k] 30)).alloc (.cells #[.slice none 0 0, .slice none 0 0, .int .i64 0, .int .i64 0] 64))) := by
  have n2 := Blk.new (w.alloc (.cells #[.int .i64 m, .int .u8 a, .slice A rs.length k] 30)) #[.slice none 0 0, .slice none 0 0, .int .i64 0, .int .i64 0] 64
  have e : (w.alloc (.cells #[.int .i64 m, .int .u8 a, .slice A rs.length k] 30)).heap.size = w.heap.size + 1 := by simp
  rw [e] at n2
  exact ⟨(Blk.new _ _ _).box, n2, ((Below.refl _ _).alloc (Nat.le_refl _) _).alloc (by simp) _⟩
 have HR := Lib.hid (hR.up HP0.out.2.2)
 clear hR hG hft hK
 go_enter Try.func33, Try.ntmps33
 go_upto_region 1 with fail
 generalize (w.alloc (.cells #[.int .i64 m, .int .u8 a, .slice A rs.length k] 30)).alloc (.cells #[.slice none 0 0, .slice none 0 0, .int .i64 0, .int .i64 0] 64) = V at *
 have HBV := Lib.hid HP0.out.2.2
 obtain ⟨q, hq⟩ : ∃ q, w.heap.size = q := ⟨_, rfl⟩
 rw [hq] at HP0
 simp only [hq]
 obtain ⟨r, hr⟩ : ∃ r, q + 1 = r := ⟨_, rfl⟩
 rw [hr] at HP0
 simp only [hr]
 have HQR : Hid (w.heap.size ≤ r) := by unfold Hid; omega
 clear hq hr
 have HTX := Lib.hid (fun W => rText_any s W (by omega))
 by_cases ht : isTextB (bytes s) = true
 ·
  have he0 : textE (bytes s) = 0 := by
   have h1 := HTE.out
   rw [ht] at h1
   exact eq_of_beq h1
  have HT := Lib.hid ht
  rw [he0] at HTX
  clear he0 ht HTE
  go_wp2_with fail
  refine (HTX.out _).mono ?_
  rintro e w1 ⟨rfl, rfl⟩
  have HT0 := Lib.hid HP0.out.1
  have HZ0 := Lib.hid HP0.out.2.1
  clear HP0 HTX
  have t0 := HT0.out.cell 0
  have t1 := HT0.out.cell 1
  have t2 := HT0.out.cell 2
  simp only [List.getElem?_toArray, List.getElem?_cons_zero, List.getElem?_cons_succ] at t0 t1 t2
  go_wp2_with fail
  refine (suffixes_any m a A rs.length k rs s V rfl HR.out HG.out hmax hm ha (by omega)).mono ?_
  rintro e w2 ⟨cg, g, H, rfl, hsm, hinv⟩
  rw [bytes_len] at hsm ⊢
  rw [HKE.out] at hsm
  have HCH : Hid (CstH a rs (bytes s) H) := fun v h1 h2 => hinv.cost HG.out HFT.out hm (Nat.zero_le _) h1 h2
  have HBD : Hid (∀ v : Nat × St, v.1 ≤ s.size → v.2 ∈ (theG rs).1 → -1 ≤ H v ∧ H v ≤ 2 ^ 42) := fun v h1 h2 => by
   have h3 := InvH.bound HG.out HFT.out hm hinv.tgt (v := v) (by rw [bytes_len]; exact h1) h2
   rw [bytes_len, HKE.out] at h3
   have : (s.size + 1) * K ≤ (2 ^ 28) * 3072 := Nat.mul_le_mul (by omega) hK1
   omega
  have HSM := Lib.hid hsm
  have HB2 : Hid (Below V.heap.size V w2) := hsm.bb
  have HT2 := Lib.hid (HT0.out.keep HB2.out HT0.out.lt)
  have HZ2 := Lib.hid (HZ0.out.keep HB2.out HZ0.out.lt)
  have HR2 := Lib.hid (HR.out.up HB2.out)
  have HBW2 := Lib.hid (below_next HBV.out HB2.out)
  clear hsm hinv t0 t1 t2 HT0 HZ0 HR HB2
  obtain ⟨r0, r1⟩ := HSM.out.cells (i := 0) (k := 0) (Nat.le_refl _) (by omega) hK2
  have HS00 : Hid ((theG rs).1.getD 0 St.start = St.start) := by
   have h := theG_first rs
   rw [List.getElem?_eq_getElem (by rw [HKE.out]; exact hK2)] at h
   unfold Hid
   rw [stk_at (by rw [HKE.out]; exact hK2)]
   exact Option.some.inj h
  have hfh : fH rs H 0 0 = H (0, St.start) := by unfold fH; rw [HS00.out]
  rw [hfh] at r1
  clear hfh
  have t0 := HT2.out.cell 0
  have t1 := HT2.out.cell 1
  have t2 := HT2.out.cell 2
  simp only [List.getElem?_toArray, List.getElem?_cons_zero, List.getElem?_cons_succ] at t0 t1 t2
  have hKi : (0 : Int) < (K : Int) := by omega
  have hL1 : (0 : Int) < (s.size : Int) + 1 := by omega
  have HM0 : Hid (St.start ∈ (theG rs).1) := List.mem_of_getElem? (theG_first rs)
  have HC0 : Hid (CostV a rs (bytes s) (0, St.start) (H (0, St.start))) := HCH.out (0, St.start) (Nat.zero_le _) HM0.out
  have hb0 := HBD.out (0, St.start) (Nat.zero_le _) HM0.out
  obtain ⟨h0, hh0⟩ : ∃ h0, H (0, St.start) = h0 := ⟨_, rfl⟩
  rw [hh0] at r1 HC0 hb0
  have HH0 := Lib.hid hh0
  clear hh0
  by_cases hneg : h0 < 0
  ·
   have HNO : Hid (∀ ls, ¬ GdE (edgP rs (bytes s)) (finP a (bytes s)) (0, 0) ls) := fun ls hl => by
    rcases HC0.out with ⟨_, h2⟩ | ⟨ks, _, h2⟩
    ·
     exact h2 ls ((gd_RP HG.out HFT.out).2 hl)
    ·
     omega
   go_wp2_with fail
   refine (reached6_any m a A rs.length k rs s w2 rfl HR2.out HG.out hmax hm (by omega)).mono ?_
   rintro e w3 ⟨G, rfl, htop, hb3⟩
   have HZ3 := Lib.hid (HZ2.out.keep hb3 HZ2.out.lt)
   have HB3 := Lib.hid (below_next HBW2.out hb3)
   clear hb3 r0 r1 t0 t1 t2 HZ2
   have z0 := HZ3.out.cell 0
   have z1 := HZ3.out.cell 1
   have z2 := HZ3.out.cell 2
   have z3 := HZ3.out.cell 3
   have f0 := HZ3.out.free 0
   have f1 := HZ3.out.free 1
   have f2 := HZ3.out.free 2
   have f3 := HZ3.out.free 3
   have hp := put4_blk HZ3.out (.slice none 0 0) (.slice none 0 0) (.int .i64 (G : Nat)) (.int .i64 61)
   have e0 := hp.cell 0
   have e1 := hp.cell 1
   have e2 := hp.cell 2
   have e3 := hp.cell 3
   unfold put4 at e0 e1 e2 e3
   simp only [List.getElem?_toArray, List.getElem?_cons_zero, List.getElem?_cons_succ] at z0 z1 z2 z3 e0 e1 e2 e3
   have HEND : Hid (Wr6End a rs (bytes s) w (.returned (.agg #[.slice none 0 0, .slice none 0 0, .int .i64 (G : Nat), .int .i64 61])) (put4 w3 r (.slice none 0 0) (.slice none 0 0) (.int .i64 (G : Nat)) (.int .i64 61))) :=
    ⟨none, 0, none, 0, [], [], G, 61, rfl, fun h => absurd h (by simp), fun h => absurd h (by simp), .inr ⟨HT.out, .inr ⟨HNO.out, rfl, rfl, htop, rfl⟩⟩, fun h => absurd h (by simp), put4_below HB3.out HQR.out⟩
   unfold put4 at HEND
   clear hp htop HZ3 HB3 HNO HC0
   go_wp2_with fail
   refine bodyPost_ret (v := .agg #[.slice none 0 0, .slice none 0 0, .int .i64 (G : Nat), .int .i64 61]) (by simp [results, Try.results33, go_sem, e0, e1, e2, e3]) rfl HEND.out
  ·
   have hpos0 : 0 ≤ h0 := by omega
   obtain ⟨P, hP⟩ : ∃ P, BestE (edgR rs (bytes s)) (cstR rs) (finR a (bytes s)) (0, St.start) P := by
    refine bestE_ex (fun v k u he => edgR_cst HG.out v k u he) ?_
    rcases HC0.out with ⟨h1, _⟩ | ⟨ks, h1, _⟩
    ·
     omega
    ·
     exact ⟨ks, h1.1⟩
   have HPB := Lib.hid hP
   have HPS := Lib.hid (prt_start HG.out HFT.out hP)
   have HPC : Hid (h0 = (cstE (cstR rs) P : Nat)) := costV_one HC0.out (.inr ⟨P, hP.min, rfl⟩)
   clear hP HC0
   go_wp2_with fail
   refine (rStates_any m a A rs.length k rs w2 rfl HR2.out HG.out hmax hm).mono ?_
   rintro e w3 ⟨LA, lk, rfl, hst, hb3⟩
   rw [HKE.out]
   have HST := Lib.hid hst
   have HT3 := Lib.hid (HT2.out.keep hb3 HT2.out.lt)
   have HZ3 := Lib.hid (HZ2.out.keep hb3 HZ2.out.lt)
   have HR3 := Lib.hid (HR2.out.up hb3)
   have HS3 := Lib.hid (HSM.out.next hb3)
   have HBW3 := Lib.hid (below_next HBW2.out hb3)
   clear hst hb3 t0 t1 t2 r0 r1 HT2 HZ2 HR2 HSM HBW2
   have HP1 : Hid (Blk (w3.alloc (.cells #[.slice none 0 0, .slice none 0 0, .int .i64 s.size, .int .i64 0] 64)) w3.heap.size 64 #[.slice none 0 0, .slice none 0 0, .int .i64 s.size, .int .i64 0]) := Blk.new _ _ _
   have HX1 := Lib.hid (below_box w3 #[.slice none 0 0, .slice none 0 0, .int .i64 s.size, .int .i64 0] 64)
   go_upto_region 8 with fail
   generalize w3.alloc (.cells #[.slice none 0 0, .slice none 0 0, .int .i64 s.size, .int .i64 0] 64) = w4 at *
   obtain ⟨zl, hzl⟩ : ∃ zl, w3.heap.size = zl := ⟨_, rfl⟩
   have HX2 : Hid (Below zl w3 w4) := by have h := HX1.out; rw [hzl] at h; exact h
   rw [hzl] at HP1
   simp only [hzl]
   have HZL := Lib.hid hzl
   clear hzl HX1
   go_wp2_with fail
   refine (rStart_any w4).mono ?_
   rintro e w5 ⟨rfl, hb5⟩
   rw [show St.start.val = .agg #[.int .i64 0, .int .i64 0, .int .u8 63] from rfl]
   have HP5 := Lib.hid (HP1.out.keep hb5 HP1.out.lt)
   have HX5 : Hid (Below zl w3 w5) := HX2.out.trans (hb5.mono (by have := HP1.out.lt; omega))
   clear hb5 HP1 HX2
   have HPT : Hid (Blk (w5.alloc (.cells #[.string s, .int .i64 0, .int .i64 0, .int .i64 0, .int .u8 63, .slice LA K lk] 128)) w5.heap.size 128 #[.string s, .int .i64 0, .int .i64 0, .int .i64 0, .int .u8 63, .slice LA K lk]) := Blk.new _ _ _
   have HBX := Lib.hid (below_box w5 #[.string s, .int .i64 0, .int .i64 0, .int .i64 0, .int .u8 63, .slice LA K lk] 128)
   go_upto_region 9 with fail
   generalize w5.alloc (.cells #[.string s, .int .i64 0, .int .i64 0, .int .i64 0, .int .u8 63, .slice LA K lk] 128) = w6 at *
   obtain ⟨pt, hpt⟩ : ∃ pt, w5.heap.size = pt := ⟨_, rfl⟩
   rw [hpt] at HPT
   simp only [hpt]
   have HP6 := Lib.hid (HP5.out.keep HBX.out HP5.out.lt)
   have HX6 : Hid (Below zl w3 w6) := HX5.out.trans (HBX.out.mono (by have := HP5.out.lt; omega))
   have HZP : Hid (zl < pt) := by have := HP5.out.lt; unfold Hid; omega
   clear hpt HP5 HX5 HBX
   have HLR0 : Hid (LR (pt + 1) zl s.size (cellsK rs []) [] (.slice none 0 0) (.slice none 0 0) w6) := ⟨HP6.out, World.ownsRow_nil _ _ _ _, World.ownsRow_nil _ _ _ _⟩
   clear HP6
   obtain ⟨i0, hi, hz0, hz1, hz2⟩ := info_parts info_int
   obtain ⟨i1, hj1, hy0, hy1, hy2⟩ := info_parts info_cell
   go_loopg [11] h0.toNat (fun gk _ wx => ∃ (done : List Int) (i : Nat) (st : St) (CV PV : Value), gk = (H (i, st)).toNat ∧ PrtR a rs (bytes s) P done (i, st) ∧ LR (pt + 1) zl s.size (cellsK rs done) done CV PV wx ∧ Blk wx pt 128 #[.string s, .int .i64 i, .int .i64 st.mode, .int .i64 st.last, .int .u8 st.need, .slice LA K lk] ∧ Below zl w3 wx)
   case atStart => exact ⟨[], 0, St.start, _, _, by rw [HH0.out], HPS.out, HLR0.out, HPT.out, HX6.out⟩
   case round =>
    obtain ⟨done, i, st, CV, PV, hgk, hprt, hlr, hpt, hbx⟩ := hrel
    clear HLR0 HPT HX6 HPS
    have HGK := Lib.hid hgk
    have HPR := Lib.hid hprt
    have HLR := Lib.hid hlr
    have HPT := Lib.hid hpt
    have HBX := Lib.hid hbx
    clear hgk hprt hlr hpt hbx
    obtain ⟨hil, hmem⟩ : i ≤ s.size ∧ st ∈ (theG rs).1 := by
     obtain ⟨_, _, _, _, h4, h5⟩ := HPR.out
     rw [bytes_len] at h4
     exact ⟨h4, h5⟩
    have hbv := HBD.out (i, st) hil hmem
    have HBW : Hid (Below w3.heap.size w3 wr) := by have h := HBX.out; rw [← HZL.out] at h; exact h
    have HTW := Lib.hid (HT3.out.keep HBW.out HT3.out.lt)
    have HSW := Lib.hid (HS3.out.next HBW.out)
    have HIX : Hid (∀ W, Below wr.heap.size wr W → Calls Try.prog 63 #[.slice LA K lk, st.val] W fun e w' => e = .returned (.int .i64 (idxI (theG rs).1 st)) ∧ Below W.heap.size W w') := fun W hb => index_st LA K lk (theG rs).1 st W HKE.out (HST.out.up (below_next HBW.out hb)) (by omega)
    obtain ⟨kk, hkk, hkg⟩ := idx_mem hmem
    rw [hkk] at HIX
    have hkK : kk < K := by rw [← HKE.out]; exact (List.getElem?_eq_some_iff.1 hkg).1
    have hkk0 : (0 : Int) ≤ (kk : Int) := by omega
    have hkk1 : (kk : Int) < (K : Int) := by omega
    have hfh : fH rs H i kk = H (i, st) := by
     unfold fH
     rw [List.getD_eq_getElem?_getD, hkg, Option.getD_some]
    obtain ⟨r0, r1⟩ := HSW.out.cells (i := i) (k := kk) (Nat.zero_le _) (by omega) hkK
    rw [hfh] at r1
    have hcgl := HSW.out.co.co.lt
    have hgil := (HSW.out.co.ro i (Nat.zero_le _) (by omega)).lt
    obtain ⟨gi, hgi⟩ : ∃ gi, g i = gi := ⟨_, rfl⟩
    rw [hgi] at r0 r1 hgil
    have HMM := Lib.hid hmem
    clear hfh hkg hkk hgi hmem
    obtain ⟨hv, hhv⟩ : ∃ hv, H (i, st) = hv := ⟨_, rfl⟩
    rw [hhv] at r1 hbv
    have HHV := Lib.hid hhv
    clear hhv
    have hi0 : (0 : Int) ≤ (i : Int) := by omega
    have hil1 : (i : Int) < (s.size : Int) + 1 := by omega
    have p1 := HPT.out.cell 1
    have p2 := HPT.out.cell 2
    have p3 := HPT.out.cell 3
    have p4 := HPT.out.cell 4
    simp only [List.getElem?_toArray, List.getElem?_cons_zero, List.getElem?_cons_succ] at p1 p2 p3 p4
    have hptl := HPT.out.lt
    obtain ⟨sa, sb, sc⟩ := st
    dsimp only [St.val] at p2 p3 p4 HIX
    go_upto_region 9 with fail
    refine wp_region_head 11 0 (by kernel_rfl) (fun y => (.agg #[.int .i64 m, .int .u8 a, .slice A rs.length k]) :: (.string s) :: (.pointer (some ⟨q, 0, none⟩)) :: undef :: (.pointer (some ⟨r, 0, none⟩)) :: (.int .i64 ↑(textAt (bytes s))) :: (.int .i64 0) :: (.slice (some ⟨cg, 0, none⟩) (s.size + 1) (s.size + 1)) :: (.slice LA K lk) :: (.pointer (some ⟨zl, 0, none⟩)) :: (.pointer (some ⟨pt, 0, none⟩)) :: u11 :: u12 :: (.tuple #[.int .i64 ↑(textAt (bytes s)), .int .i64 0]) :: (.string s) :: (.tuple #[.int .i64 ↑(textAt (bytes s)), .int .i64 0]) :: (.int .i64 ↑(textAt (bytes s))) :: (.int .i64 0) :: (.int .i64 0) :: (.bool false) :: undef :: undef :: undef :: (.agg #[.int .i64 m, .int .u8 a, .slice A rs.length k]) :: (.string s) :: (.slice (some ⟨cg, 0, none⟩) (s.size + 1) (s.size + 1)) :: (.slice (some ⟨cg, 0, none⟩) (s.size + 1) (s.size + 1)) :: (.pointer (some ⟨cg, 0, none⟩)) :: (.slice (some ⟨g 0, 0, none⟩) K K) :: (.pointer (some ⟨g 0, 0, none⟩)) :: (.int .i64 h0) :: (.bool (decide (h0 < 0))) :: undef :: undef :: undef :: undef :: (.agg #[.int .i64 m, .int .u8 a, .slice A rs.length k]) :: (.slice LA K lk) :: (.string s) :: (.int .i64 ↑s.size) :: (.agg #[.slice none 0 0, .slice none 0 0, .int .i64 ↑s.size, .int .i64 0]) :: (.string s) :: (.agg #[.int .i64 0, .int .i64 0, .int .u8 63]) :: (.slice LA K lk) :: (.agg #[Value.string s, .int .i64 0, .int .i64 0, .int .i64 0, .int .u8 63, .slice LA K lk]) :: y 0 :: y 1 :: y 2 :: y 3 :: y 4 :: y 5 :: y 6 :: y 7 :: y 8 :: y 9 :: y 10 :: u56 :: u57 :: u58 :: u59 :: u60 :: u61 :: u62 :: u63 :: u64 :: u65 :: u66 :: u67 :: u68 :: u69 :: u70 :: u71 :: u72 :: u73 :: u74 :: u75 :: u76 :: u77 :: u78 :: u79 :: u80 :: u81 :: u82 :: u83 :: u84 :: u85 :: u86 :: u87 :: u88 :: u89 :: u90 :: u91 :: u92 :: u93 :: u94 :: u95 :: u96 :: u97 :: u98 :: u99 :: u100 :: u101 :: u102 :: u103 :: u104 :: u105 :: u106 :: u107 :: u108 :: u109 :: u110 :: u111 :: u112 :: u113 :: u114 :: u115 :: u116 :: undef :: [])
     (fun _ w' => Below wr.heap.size wr w') (phiP [pv (.slice (some ⟨cg, 0, none⟩) (s.size + 1) (s.size + 1)), pv (.pointer (some ⟨pt, 1, none⟩)), pv (.int .i64 i), pv (.pointer (some ⟨cg, i, none⟩)), pv (.slice (some ⟨gi, 0, none⟩) K K), pv (.slice LA K lk), pv (.pointer (some ⟨pt, 2, none⟩)), pv (.agg #[.int .i64 sa, .int .i64 sb, .int .u8 sc]), pv (.int .i64 kk), pv (.pointer (some ⟨gi, kk, none⟩)), pv (.int .i64 hv)]) (fun i => match i with | 0 => u45 | 1 => u46 | 2 => u47 | 3 => u48 | 4 => u49 | 5 => u50 | 6 => u51 | 7 => u52 | 8 => u53 | 9 => u54 | 10 => u55 | _ => undef)
     (by kernel_rfl) (by kernel_rfl) (by kernel_rfl) (by kernel_rfl) (fun i v wa wb h hb => phiP_keep (stay_cons (pv_st) (stay_cons (pv_st) (stay_cons (pv_st) (stay_cons (pv_st) (stay_cons (pv_st) (stay_cons (pv_st) (stay_cons (pv_st) (stay_cons (pv_st) (stay_cons (pv_st) (stay_cons (pv_st) (stay_cons (pv_st) stay_nil))))))))))) h hb) (Below.refl _ _).drew [0, 1, 2, 3, 4, 5, 6, 7, 8, 9, 10] (by kernel_rfl) ?_ ?_
    ·
     refine allCons ?_ (allCons ?_ (allCons ?_ (allCons ?_ (allCons ?_ (allCons ?_ (allCons ?_ (allCons ?_ (allCons ?_ (allCons ?_ (allCons ?_ (allNil)))))))))))
     all_goals intro y w10 K hS hd hK
     ·
      refine wpOp_step rfl (fun K2 hK2 => ?_)
      go_simp
      exact hK2 _ _ (hK _ _ hS rfl (Below.refl _ _))
     ·
      refine wpOp_step rfl (fun K2 hK2 => ?_)
      go_simp
      exact hK2 _ _ (hK _ _ hS rfl (Below.refl _ _))
     ·
      have e1 : y 1 = _ := hd 1 rfl
      obtain ⟨y, rfl⟩ := upd_at (y := y) (i := 1) e1
      dsimp [upd]
      have q1 := (hS.cell (p := ⟨pt, 1, none⟩) hptl).trans p1
      refine wpOp_step rfl (fun K2 hK2 => ?_)
      go_simp
      exact hK2 _ _ (hK _ _ hS rfl (Below.refl _ _))
     ·
      have e0 : y 0 = _ := hd 0 rfl
      have e2 : y 2 = _ := hd 2 rfl
      obtain ⟨y, rfl⟩ := upd_at (y := y) (i := 0) e0
      obtain ⟨y, rfl⟩ := upd_at (y := y) (i := 2) e2
      dsimp [upd]
      refine wpOp_step rfl (fun K2 hK2 => ?_)
      go_simp
      exact hK2 _ _ (hK _ _ hS rfl (Below.refl _ _))
     ·
      have e3 : y 3 = _ := hd 3 rfl
      obtain ⟨y, rfl⟩ := upd_at (y := y) (i := 3) e3
      dsimp [upd]
      have q2 := (hS.cell (p := ⟨cg, i, none⟩) hcgl).trans r0
      refine wpOp_step rfl (fun K2 hK2 => ?_)
      go_simp
      exact hK2 _ _ (hK _ _ hS rfl (Below.refl _ _))
     ·
      refine wpOp_step rfl (fun K2 hK2 => ?_)
      go_simp
      exact hK2 _ _ (hK _ _ hS rfl (Below.refl _ _))
     ·
      refine wpOp_step rfl (fun K2 hK2 => ?_)
      go_simp
      exact hK2 _ _ (hK _ _ hS rfl (Below.refl _ _))
     ·
      have e6 : y 6 = _ := hd 6 rfl
      obtain ⟨y, rfl⟩ := upd_at (y := y) (i := 6) e6
      dsimp [upd]
      have q3 := (hS.cell (p := ⟨pt, 2, none⟩) hptl).trans p2
      have q4 := (hS.cell (p := ⟨pt, 3, none⟩) hptl).trans p3
      have q5 := (hS.cell (p := ⟨pt, 4, none⟩) hptl).trans p4
      refine wpOp_step rfl (fun K2 hK2 => ?_)
      go_simp
      exact hK2 _ _ (hK _ _ hS rfl (Below.refl _ _))
     ·
      have e5 : y 5 = _ := hd 5 rfl
      have e7 : y 7 = _ := hd 7 rfl
      obtain ⟨y, rfl⟩ := upd_at (y := y) (i := 5) e5
      obtain ⟨y, rfl⟩ := upd_at (y := y) (i := 7) e7
      dsimp [upd]
      refine wpOp_step rfl (fun K2 hK2 => ?_)
      go_simp
      refine (HIX.out w10 hS).mono ?_
      rintro e' w2 ⟨rfl, hb2⟩
      exact hK2 _ _ (hK _ _ (below_next hS hb2) rfl hb2)
     ·
      have e4 : y 4 = _ := hd 4 rfl
      have e8 : y 8 = _ := hd 8 rfl
      obtain ⟨y, rfl⟩ := upd_at (y := y) (i := 4) e4
      obtain ⟨y, rfl⟩ := upd_at (y := y) (i := 8) e8
      dsimp [upd]
      refine wpOp_step rfl (fun K2 hK2 => ?_)
      go_simp
      exact hK2 _ _ (hK _ _ hS rfl (Below.refl _ _))
     ·
      have e9 : y 9 = _ := hd 9 rfl
      obtain ⟨y, rfl⟩ := upd_at (y := y) (i := 9) e9
      dsimp [upd]
      have q6 := (hS.cell (p := ⟨gi, kk, none⟩) hgil).trans r1
      refine wpOp_step rfl (fun K2 hK2 => ?_)
      go_simp
      exact hK2 _ _ (hK _ _ hS rfl (Below.refl _ _))
    ·
     intro y w10 f hS hd
     have e10 : y 10 = _ := hd 10 (by decide)
     clear hd
     obtain ⟨y, rfl⟩ := upd_at (y := y) (i := 10) e10
     dsimp [upd]
     refine wpAny_one (i := 11) (by kernel_rfl) ?_
     refine wpOp_step rfl (fun K2 hK2 => ?_)
     go_simp
     refine hK2 _ _ ?_
     clear hK2 K2
     clear e10
     refine wpAny_done (by kernel_rfl) ?_ _
     obtain ⟨yo1, rfl⟩ : ∃ yo1 : Nat → Value, yo1 = y := ⟨_, rfl⟩
     have HB7 := Lib.hid hS
     have HLR7 := Lib.hid (HLR.out.next hS)
     have HPT7 := Lib.hid (HPT.out.keep hS HPT.out.lt)
     have HTW7 := Lib.hid (HTW.out.keep hS HTW.out.lt)
     have HSW7 := Lib.hid (HSW.out.next hS)
     have HBX7 : Hid (Below zl w3 w10) := HBX.out.trans (hS.mono (by have := HLR.out.ho.lt; omega))
     have HIX7 : Hid (∀ W, Below w10.heap.size w10 W → Calls Try.prog 63 #[.slice LA K lk, .agg #[.int .i64 sa, .int .i64 sb, .int .u8 sc]] W fun e w' => e = .returned (.int .i64 kk) ∧ Below W.heap.size W w') := fun W hb => HIX.out W (below_next hS hb)
     have r0' := (hS.cell (p := ⟨cg, i, none⟩) hcgl).trans r0
     have r1' := (hS.cell (p := ⟨gi, kk, none⟩) hgil).trans r1
     have hcg7 : cg < w10.heap.size := by have := hS.size; omega
     have hgi7 : gi < w10.heap.size := by have := hS.size; omega
     clear hS r0 r1 p1 p2 p3 p4 hptl hcgl hgil HLR HPT HTW HSW HBX HIX HBW
     obtain ⟨W7, rfl⟩ : ∃ W7 : World, W7 = w10 := ⟨_, rfl⟩
     have r0 := r0'
     have r1 := r1'
     clear r0' r1'
     have hpt7 := HPT7.out.lt
     by_cases hpos : 0 < hv
     ·
      have p1 := HPT7.out.cell 1
      have p2 := HPT7.out.cell 2
      have p3 := HPT7.out.cell 3
      have p4 := HPT7.out.cell 4
      simp only [List.getElem?_toArray, List.getElem?_cons_zero, List.getElem?_cons_succ] at p1 p2 p3 p4
      have hdt : decide (0 < hv) = true := decide_eq_true hpos
      simp only [hdt]
      clear hdt
      go_upto_region 10 with fail
      refine wp_region_head 11 1 (by kernel_rfl) (fun y => (.agg #[.int .i64 m, .int .u8 a, .slice A rs.length k]) :: (.string s) :: (.pointer (some ⟨q, 0, none⟩)) :: undef :: (.pointer (some ⟨r, 0, none⟩)) :: (.int .i64 ↑(textAt (bytes s))) :: (.int .i64 0) :: (.slice (some ⟨cg, 0, none⟩) (s.size + 1) (s.size + 1)) :: (.slice LA K lk) :: (.pointer (some ⟨zl, 0, none⟩)) :: (.pointer (some ⟨pt, 0, none⟩)) :: u11 :: u12 :: (.tuple #[.int .i64 ↑(textAt (bytes s)), .int .i64 0]) :: (.string s) :: (.tuple #[.int .i64 ↑(textAt (bytes s)), .int .i64 0]) :: (.int .i64 ↑(textAt (bytes s))) :: (.int .i64 0) :: (.int .i64 0) :: (.bool false) :: undef :: undef :: undef :: (.agg #[.int .i64 m, .int .u8 a, .slice A rs.length k]) :: (.string s) :: (.slice (some ⟨cg, 0, none⟩) (s.size + 1) (s.size + 1)) :: (.slice (some ⟨cg, 0, none⟩) (s.size + 1) (s.size + 1)) :: (.pointer (some ⟨cg, 0, none⟩)) :: (.slice (some ⟨g 0, 0, none⟩) K K) :: (.pointer (some ⟨g 0, 0, none⟩)) :: (.int .i64 h0) :: (.bool (decide (h0 < 0))) :: undef :: undef :: undef :: undef :: (.agg #[.int .i64 m, .int .u8 a, .slice A rs.length k]) :: (.slice LA K lk) :: (.string s) :: (.int .i64 ↑s.size) :: (.agg #[.slice none 0 0, .slice none 0 0, .int .i64 ↑s.size, .int .i64 0]) :: (.string s) :: (.agg #[.int .i64 0, .int .i64 0, .int .u8 63]) :: (.slice LA K lk) :: (.agg #[Value.string s, .int .i64 0, .int .i64 0, .int .i64 0, .int .u8 63, .slice LA K lk]) :: (yo1 0) :: (yo1 1) :: (yo1 2) :: (yo1 3) :: (yo1 4) :: (yo1 5) :: (yo1 6) :: (yo1 7) :: (yo1 8) :: (yo1 9) :: (.int .i64 hv) :: (.bool true) :: y 0 :: y 1 :: y 2 :: y 3 :: y 4 :: y 5 :: y 6 :: y 7 :: y 8 :: y 9 :: y 10 :: u68 :: u69 :: u70 :: u71 :: u72 :: u73 :: u74 :: u75 :: u76 :: u77 :: u78 :: u79 :: u80 :: u81 :: u82 :: u83 :: u84 :: u85 :: u86 :: u87 :: u88 :: u89 :: u90 :: u91 :: u92 :: u93 :: u94 :: u95 :: u96 :: u97 :: u98 :: u99 :: u100 :: u101 :: u102 :: u103 :: u104 :: u105 :: u106 :: u107 :: u108 :: u109 :: u110 :: u111 :: u112 :: u113 :: u114 :: u115 :: u116 :: undef :: [])
       (fun _ w' => Below W7.heap.size W7 w') (phiP [pv (.slice (some ⟨cg, 0, none⟩) (s.size + 1) (s.size + 1)), pv (.pointer (some ⟨pt, 1, none⟩)), pv (.int .i64 i), pv (.pointer (some ⟨cg, i, none⟩)), pv (.slice (some ⟨gi, 0, none⟩) K K), pv (.slice LA K lk), pv (.pointer (some ⟨pt, 2, none⟩)), pv (.agg #[.int .i64 sa, .int .i64 sb, .int .u8 sc]), pv (.int .i64 kk), pv (.pointer (some ⟨gi, kk, none⟩)), pv (.int .i64 hv)]) (fun i => match i with | 0 => u57 | 1 => u58 | 2 => u59 | 3 => u60 | 4 => u61 | 5 => u62 | 6 => u63 | 7 => u64 | 8 => u65 | 9 => u66 | 10 => u67 | _ => undef)
       (by kernel_rfl) (by kernel_rfl) (by kernel_rfl) (by kernel_rfl) (fun i v wa wb h hb => phiP_keep (stay_cons (pv_st) (stay_cons (pv_st) (stay_cons (pv_st) (stay_cons (pv_st) (stay_cons (pv_st) (stay_cons (pv_st) (stay_cons (pv_st) (stay_cons (pv_st) (stay_cons (pv_st) (stay_cons (pv_st) (stay_cons (pv_st) stay_nil))))))))))) h hb) (Below.refl _ _).drew [0, 1, 2, 3, 4, 5, 6, 7, 8, 9, 10] (by kernel_rfl) ?_ ?_
      ·
       refine allCons ?_ (allCons ?_ (allCons ?_ (allCons ?_ (allCons ?_ (allCons ?_ (allCons ?_ (allCons ?_ (allCons ?_ (allCons ?_ (allCons ?_ (allNil)))))))))))
       all_goals intro y w10 K hS hd hK
       ·
        refine wpOp_step rfl (fun K2 hK2 => ?_)
        go_simp
        exact hK2 _ _ (hK _ _ hS rfl (Below.refl _ _))
       ·
        refine wpOp_step rfl (fun K2 hK2 => ?_)
        go_simp
        exact hK2 _ _ (hK _ _ hS rfl (Below.refl _ _))
       ·
        have e1 : y 1 = _ := hd 1 rfl
        obtain ⟨y, rfl⟩ := upd_at (y := y) (i := 1) e1
        dsimp [upd]
        have q1 := (hS.cell (p := ⟨pt, 1, none⟩) hpt7).trans p1
        refine wpOp_step rfl (fun K2 hK2 => ?_)
        go_simp
        exact hK2 _ _ (hK _ _ hS rfl (Below.refl _ _))
       ·
        have e0 : y 0 = _ := hd 0 rfl
        have e2 : y 2 = _ := hd 2 rfl
        obtain ⟨y, rfl⟩ := upd_at (y := y) (i := 0) e0
        obtain ⟨y, rfl⟩ := upd_at (y := y) (i := 2) e2
        dsimp [upd]
        refine wpOp_step rfl (fun K2 hK2 => ?_)
        go_simp
        exact hK2 _ _ (hK _ _ hS rfl (Below.refl _ _))
       ·
        have e3 : y 3 = _ := hd 3 rfl
        obtain ⟨y, rfl⟩ := upd_at (y := y) (i := 3) e3
        dsimp [upd]
        have q2 := (hS.cell (p := ⟨cg, i, none⟩) hcg7).trans r0
        refine wpOp_step rfl (fun K2 hK2 => ?_)
        go_simp
        exact hK2 _ _ (hK _ _ hS rfl (Below.refl _ _))
       ·
        refine wpOp_step rfl (fun K2 hK2 => ?_)
        go_simp
        exact hK2 _ _ (hK _ _ hS rfl (Below.refl _ _))
       ·
        refine wpOp_step rfl (fun K2 hK2 => ?_)
        go_simp
        exact hK2 _ _ (hK _ _ hS rfl (Below.refl _ _))
       ·
        have e6 : y 6 = _ := hd 6 rfl
        obtain ⟨y, rfl⟩ := upd_at (y := y) (i := 6) e6
        dsimp [upd]
        have q3 := (hS.cell (p := ⟨pt, 2, none⟩) hpt7).trans p2
        have q4 := (hS.cell (p := ⟨pt, 3, none⟩) hpt7).trans p3
        have q5 := (hS.cell (p := ⟨pt, 4, none⟩) hpt7).trans p4
        refine wpOp_step rfl (fun K2 hK2 => ?_)
        go_simp
        exact hK2 _ _ (hK _ _ hS rfl (Below.refl _ _))
       ·
        have e5 : y 5 = _ := hd 5 rfl
        have e7 : y 7 = _ := hd 7 rfl
        obtain ⟨y, rfl⟩ := upd_at (y := y) (i := 5) e5
        obtain ⟨y, rfl⟩ := upd_at (y := y) (i := 7) e7
        dsimp [upd]
        refine wpOp_step rfl (fun K2 hK2 => ?_)
        go_simp
        refine (HIX7.out w10 hS).mono ?_
        rintro e' w2 ⟨rfl, hb2⟩
        exact hK2 _ _ (hK _ _ (below_next hS hb2) rfl hb2)
       ·
        have e4 : y 4 = _ := hd 4 rfl
        have e8 : y 8 = _ := hd 8 rfl
        obtain ⟨y, rfl⟩ := upd_at (y := y) (i := 4) e4
        obtain ⟨y, rfl⟩ := upd_at (y := y) (i := 8) e8
        dsimp [upd]
        refine wpOp_step rfl (fun K2 hK2 => ?_)
        go_simp
        exact hK2 _ _ (hK _ _ hS rfl (Below.refl _ _))
       ·
        have e9 : y 9 = _ := hd 9 rfl
        obtain ⟨y, rfl⟩ := upd_at (y := y) (i := 9) e9
        dsimp [upd]
        have q6 := (hS.cell (p := ⟨gi, kk, none⟩) hgi7).trans r1
        refine wpOp_step rfl (fun K2 hK2 => ?_)
        go_simp
        exact hK2 _ _ (hK _ _ hS rfl (Below.refl _ _))
      ·
       intro y w10 f hS hd
       have e10 : y 10 = _ := hd 10 (by decide)
       clear hd
       obtain ⟨y, rfl⟩ := upd_at (y := y) (i := 10) e10
       dsimp [upd]
       refine wpAny_one (i := 11) (by kernel_rfl) ?_
       refine wpOp_step rfl (fun K2 hK2 => ?_)
       go_simp
       refine hK2 _ _ ?_
       clear hK2 K2
       refine wpAny_one (i := 12) (by kernel_rfl) ?_
       refine wpOp_step rfl (fun K2 hK2 => ?_)
       go_simp
       refine hK2 _ _ ?_
       clear hK2 K2
       clear e10
       refine wpAny_done (by kernel_rfl) ?_ _
       obtain ⟨yo2, rfl⟩ : ∃ yo2 : Nat → Value, yo2 = y := ⟨_, rfl⟩
       have HB8 := Lib.hid hS
       have HLR8 := Lib.hid (HLR7.out.next hS)
       have HPT8 := Lib.hid (HPT7.out.keep hS HPT7.out.lt)
       have HTW8 := Lib.hid (HTW7.out.keep hS HTW7.out.lt)
       have HSW8 := Lib.hid (HSW7.out.next hS)
       have HBX8 : Hid (Below zl w3 w10) := HBX7.out.trans (hS.mono (by have := HLR7.out.ho.lt; omega))
       clear hS r0 r1 p1 p2 p3 p4 hpt7 hcg7 hgi7 HLR7 HPT7 HTW7 HSW7 HBX7 HIX7 HB7 HB8
       obtain ⟨W8, rfl⟩ : ∃ W8 : World, W8 = w10 := ⟨_, rfl⟩
       obtain ⟨J, hJ, hJe, hJf, hJs, hJt, hJm, hJp, hJlt, hJ0⟩ := prt_step HG.out HFT.out hm HCH.out HPR.out (by rw [HHV.out]; exact hpos)
       rw [HHV.out] at hJe hJf hJlt
       rw [bytes_len] at hJt
       dsimp only at hJs hJt hJm hJp hJlt hJ0
       have HBW8 : Hid (Below w3.heap.size w3 W8) := by have h := HBX8.out; rw [← HZL.out] at h; exact h
       have HRW8 := Lib.hid (HR3.out.up HBW8.out)
       have HLW8 : Hid (StAt W8 W8.heap.size LA (theG rs).1) := HST.out.up HBW8.out
       have HAF : Hid (∀ W, Below W8.heap.size W8 W → ∀ j, j < rs.length → Calls Try.prog 76 #[.agg #[.int .i64 m, .int .u8 a, .slice A rs.length k], .agg #[.string s, .int .i64 i, .int .i64 sa, .int .i64 sb, .int .u8 sc, .slice LA K lk], .int .i64 j, .slice (some ⟨cg, 0, none⟩) (s.size + 1) (s.size + 1)] W (AftEnd (aftV rs (bytes s) H (i, ⟨sa, sb, sc⟩) j) W)) := fun W hb j hj =>
        after6_any m a A rs.length k rs s LA K lk cg 0 i j g H sa sb sc W rfl (HRW8.out.up hb) HG.out hmax hm (by omega) HKE.out (HLW8.out.up hb) HMM.out (HSW8.out.next hb).co (Nat.zero_le _) hil hj (fun v h1 h2 => by have := HBD.out v h1 h2; omega)
       have HJE := Lib.hid hJe
       have HJF := Lib.hid hJf
       have HSE : Hid (stepS rs ⟨sa, sb, sc⟩ (J : Int) = ((stepS rs ⟨sa, sb, sc⟩ (J : Int)).1, true)) := by unfold Hid; rw [← hJs]
       have HJP := Lib.hid hJp
       have hJlt2 : (H (i + rs[J].p.size, (stepS rs ⟨sa, sb, sc⟩ (J : Int)).1)).toNat < (H (i, (⟨sa, sb, sc⟩ : St))).toNat := by rw [HHV.out]; omega
       have HJL := Lib.hid hJlt2
       have HHJ := Lib.hid hJ
       have hJ64 : J < 64 := by omega
       clear hJe hJf hJs hJp hJlt hJlt2 hJm hJ0
       have hq8 := HTW8.out.lt
       have t0 := HTW8.out.cell 0
       have t1 := HTW8.out.cell 1
       have t2 := HTW8.out.cell 2
       have p0 := HPT8.out.cell 0
       have p1 := HPT8.out.cell 1
       have p2 := HPT8.out.cell 2
       have p3 := HPT8.out.cell 3
       have p4 := HPT8.out.cell 4
       have p5 := HPT8.out.cell 5
       simp only [List.getElem?_toArray, List.getElem?_cons_zero, List.getElem?_cons_succ] at t0 t1 t2 p0 p1 p2 p3 p4 p5
       go_wp2_with fail
       go_loopg [12] (J + 1) (fun gi2 s12 wx => ∃ j : Nat, j ≤ J ∧ gi2 = J + 1 - j ∧ s12 = .int .i64 j ∧ Below W8.heap.size W8 wx)
       case atStart => exact ⟨0, Nat.zero_le _, rfl, rfl, Below.refl _ _⟩
       case round =>
        obtain ⟨j, hj, hgj, rfl, hbj⟩ := hrel
        have HGJ := Lib.hid hgj
        have HBJ := Lib.hid hbj
        clear hgj
        have t0' := (hbj.cell (p := ⟨q, 0, none⟩) HTW8.out.lt).trans t0
        have t1' := (hbj.cell (p := ⟨q, 1, none⟩) HTW8.out.lt).trans t1
        have t2' := (hbj.cell (p := ⟨q, 2, none⟩) HTW8.out.lt).trans t2
        have p0' := (hbj.cell (p := ⟨pt, 0, none⟩) HPT8.out.lt).trans p0
        have p1' := (hbj.cell (p := ⟨pt, 1, none⟩) HPT8.out.lt).trans p1
        have p2' := (hbj.cell (p := ⟨pt, 2, none⟩) HPT8.out.lt).trans p2
        have p3' := (hbj.cell (p := ⟨pt, 3, none⟩) HPT8.out.lt).trans p3
        have p4' := (hbj.cell (p := ⟨pt, 4, none⟩) HPT8.out.lt).trans p4
        have p5' := (hbj.cell (p := ⟨pt, 5, none⟩) HPT8.out.lt).trans p5
        clear hbj
        have hj0 : (0 : Int) ≤ (j : Int) := by omega
        go_wp2_with fail
        refine (HAF.out wr HBJ.out j (by have := HHJ.out; omega)).mono ?_
        rintro e w9 ⟨rfl, hb9⟩
        have HBJ9 := Lib.hid (below_next HBJ.out hb9)
        clear hb9
        by_cases hjJ : j < J
        ·
         have hne := HJF.out j hjJ
         obtain ⟨av, hav⟩ : ∃ av, aftV rs (bytes s) H (i, ⟨sa, sb, sc⟩) j = av := ⟨_, rfl⟩
         rw [hav] at hne ⊢
         clear hav
         go_wp2_with fail
         go_roundg (J + 1 - (j + 1))
         case measure => rw [HGJ.out]; omega
         case rel => exact ⟨j + 1, hjJ, rfl, by go_num, HBJ9.out⟩
        ·
         obtain rfl : j = J := by omega
         rw [HJE.out]
         have HLR9 := Lib.hid (HLR8.out.next HBJ9.out)
         have HPT9 := Lib.hid (HPT8.out.keep HBJ9.out HPT8.out.lt)
         have HTW9 := Lib.hid (HTW8.out.keep HBJ9.out HTW8.out.lt)
         have HBX9 : Hid (Below zl w3 w9) := HBX8.out.trans (HBJ9.out.mono (by have := HLR8.out.ho.lt; omega))
         have HBW9 : Hid (Below w3.heap.size w3 w9) := by have h := HBX9.out; rw [← HZL.out] at h; exact h
         have HR9 := Lib.hid (HR3.out.up HBW9.out)
         clear t0' t1' t2' p0' p1' p2' p3' p4' p5' t0 t1 t2 p0 p1 p2 p3 p4 p5 HLR8 HPT8 HTW8 HSW8 HRW8 HLW8 HAF HBX8 HBW8 HBJ HBJ9 HJE HJF HGJ
         obtain ⟨CA, ck, rfl⟩ := own_shape HLR9.out.hc
         obtain ⟨PA, pk, rfl⟩ := own_shape HLR9.out.hp
         have hdl : done.length < 2 ^ 42 + 1 ∧ (cellsK rs done).length < 2 ^ 42 + 1 := by
          obtain ⟨rest, h1, h2, _⟩ := HPR.out
          have h3 := lenR_cst HG.out done _ _ h2
          have h4 := HPC.out
          rw [h1, cstE_app] at h4
          rw [cellsK_len]
          omega
         have HSZ := Lib.hid (sound_sizes HG.out (List.getElem_mem hJ))
         obtain ⟨b, o, CX, kx, rfl, hb, d0, d1, -, -, -, -, hsq, -⟩ := rules_row HR3.out hJ
         rw [HZL.out] at hb
         have hzp := HZP.out
         have HSQ := Lib.hid hsq
         have HCK := Lib.hid (cellsK_snoc (ks := done) hJ)
         obtain ⟨⟨⟨ta, tb, tc⟩, okb⟩, hsr⟩ : ∃ z, stepS rs ⟨sa, sb, sc⟩ (j : Int) = z := ⟨_, rfl⟩
         rw [hsr] at HSE HJP HJL
         obtain rfl : okb = true := by have h := HSE.out; injection h
         have HSTP : Hid (∀ W : World, Below zl w3 W → Calls Try.prog 62 #[.agg #[.int .i64 m, .int .u8 a, .slice (some ⟨b, o, none⟩) rs.length k], .agg #[.int .i64 sa, .int .i64 sb, .int .u8 sc], .int .i64 j] W fun e w' => e = .returned (.tuple #[.agg #[.int .i64 ta, .int .i64 tb, .int .u8 tc], .bool true]) ∧ Below W.heap.size W w') := fun W hb => by
          have h := rStep_any m a (some ⟨b, o, none⟩) rs.length k rs ⟨sa, sb, sc⟩ j rfl (((theG_ok HG.out HFT.out hm.1).1 _ HMM.out).fit hm.2) (by omega) W (HR3.out.up (by rw [HZL.out]; exact hb))
          rw [hsr] at h
          exact h
         dsimp only at HJP HJL
         clear hsr HSE hsq HR9
         generalize rs[j] = x at *
         obtain ⟨cs, hcsE⟩ : ∃ cs, cellsK rs done = cs := ⟨_, rfl⟩
         rw [hcsE] at HLR9 HCK hdl
         clear hcsE
         have l1 := HLR9.out.ho.cell 1
         simp only [List.getElem?_toArray, List.getElem?_cons_zero, List.getElem?_cons_succ] at l1
         have hpt9 := HPT9.out.lt
         have hwl : pt + 1 ≤ w9.heap.size := hpt9
         have hd1 := hdl.1
         have hd2 := hdl.2
         clear hdl
         have hjn1 : (j : Int) < (rs.length : Int) := by omega
         go_wp2_with (at_builtin; refine wpList_append_own_at _ rfl _ _ 43 rfl (pt + 1) 3 i0 (.int .i64 0) 1 8 Try.underlying43 hi hz0 hz1 hz2 rfl (by decide) (.slice PA done.length pk) done.length _ rfl (HLR9.out.hp.alloc _) ⟨w9.heap.size, 0, none⟩ 1 1 [.int .i64 j] rfl rfl (cell_one_new _ _ _) (ints_oneCell .i64 [(j : Int)]) (by unfold maxLen; omega) (by omega) (by simp; omega) ?_)
         intro v2 wa hown2 hgr2 _ _
         obtain ⟨A2, k2, rfl⟩ := own_shape hown2
         have hgr : w9.grownBy wa (Value.slice PA done.length pk).ownBlock := (World.grownBy_alloc _ _ _).trans hgr2
         have HLK := Lib.hid (HLR9.out.addK hown2 hgr)
         have hga : Below zl w3 wa := HBX9.out.grown hgr (by omega) (fun g hg => by have := (HLR9.out.hp.lt g hg).1; omega)
         have HBK : Hid (Below zl w3 (wa.setCell ⟨zl, 1, none⟩ (.slice A2 (done.length + 1) k2))) := hga.setCell (by show zl ≤ zl; exact Nat.le_refl _) _
         have hpa : Blk wa pt 128 _ := (hgr.block pt HPT9.out.lt (own_ne3 HLR9.out.hp HPT9.out (by decide)).symm).trans HPT9.out
         have hoa : Blk wa zl 64 _ := (hgr.block zl HLR9.out.ho.lt (own_ne3 HLR9.out.hp HLR9.out.ho (by decide)).symm).trans HLR9.out.ho
         have HPK : Hid (Blk (wa.setCell ⟨zl, 1, none⟩ (.slice A2 (done.length + 1) k2)) pt 128 #[.string s, .int .i64 i, .int .i64 sa, .int .i64 sb, .int .u8 sc, .slice LA K lk]) := (Below.heap_setCell wa ⟨zl, 1, none⟩ _ pt (by have := HZP.out; show pt ≠ zl; omega)).trans hpa
         have u1 := hoa.cell 1
         have f1 := hoa.free 1
         simp only [List.getElem?_toArray, List.getElem?_cons_zero, List.getElem?_cons_succ] at u1
         clear hown2 hgr2 hgr hga hpa hoa l1 hwl
         go_upto_region 14 with fail
         clear u1 f1
         generalize wa.setCell ⟨zl, 1, none⟩ (.slice A2 (done.length + 1) k2) = W9 at *
         have HBW9 : Hid (Below w3.heap.size w3 W9) := by have h := HBK.out; rw [← HZL.out] at h; exact h
         have HTK := Lib.hid (HT3.out.keep HBW9.out HT3.out.lt)
         have t2 := HTK.out.cell 2
         have l0 := HLK.out.ho.cell 0
         simp only [List.getElem?_toArray, List.getElem?_cons_zero, List.getElem?_cons_succ] at t2 l0
         have hzl9 := HLK.out.ho.lt
         have hql9 := HTK.out.lt
         have hpt9 := HPK.out.lt
         have x1 := (HBK.out.cell (p := ⟨b, o + j * 6 + 1, none⟩) hb).trans d1
         have hbl9 : b < W9.heap.size := by omega
         obtain ⟨bx, ox, rfl, hbx, hcx⟩ := HSQ.out (by have := HSZ.out.2.1; omega)
         rw [HZL.out] at hbx
         have hxc := HSZ.out.2.2
         have hxp := HSZ.out.1
         have hnews : ∀ W : World, Below W9.heap.size W9 W → ∀ (i : Nat) (u : Value), (x.c.map (Value.int .u8))[i]? = some u → W.cell? ((⟨bx, ox, none⟩ : Addr).add i) = some u := fun W hW i u hu => by
          rw [List.getElem?_map] at hu
          cases hi : x.c[i]? with
          | none => rw [hi] at hu; cases hu
          | some z =>
           rw [hi] at hu
           injection hu with hu
           have hil := (List.getElem?_eq_some_iff.1 hi)
           rw [plain_add, ← hu, ← hil.2]
           have hB : Below zl w3 W := HBK.out.trans (hW.mono (by omega))
           exact (hB.cell (p := ⟨bx, ox + i, none⟩) hbx).trans (hcx i hil.1)
         clear hcx
         refine wp_region_head 9 3 (by kernel_rfl) (fun y => (.agg #[.int .i64 m, .int .u8 a, .slice (some ⟨b, o, none⟩) rs.length k]) :: (.string s) :: (.pointer (some ⟨q, 0, none⟩)) :: undef :: (.pointer (some ⟨r, 0, none⟩)) :: (.int .i64 ↑(textAt (bytes s))) :: (.int .i64 0) :: (.slice (some ⟨cg, 0, none⟩) (s.size + 1) (s.size + 1)) :: (.slice LA K lk) :: (.pointer (some ⟨zl, 0, none⟩)) :: (.pointer (some ⟨pt, 0, none⟩)) :: (.int .i64 hv) :: (.int .i64 ↑j) :: (.tuple #[.int .i64 ↑(textAt (bytes s)), .int .i64 0]) :: (.string s) :: (.tuple #[.int .i64 ↑(textAt (bytes s)), .int .i64 0]) :: (.int .i64 ↑(textAt (bytes s))) :: (.int .i64 0) :: (.int .i64 0) :: (.bool false) :: undef :: undef :: undef :: (.agg #[.int .i64 m, .int .u8 a, .slice (some ⟨b, o, none⟩) rs.length k]) :: (.string s) :: (.slice (some ⟨cg, 0, none⟩) (s.size + 1) (s.size + 1)) :: (.slice (some ⟨cg, 0, none⟩) (s.size + 1) (s.size + 1)) :: (.pointer (some ⟨cg, 0, none⟩)) :: (.slice (some ⟨g 0, 0, none⟩) K K) :: (.pointer (some ⟨g 0, 0, none⟩)) :: (.int .i64 h0) :: (.bool (decide (h0 < 0))) :: undef :: undef :: undef :: undef :: (.agg #[.int .i64 m, .int .u8 a, .slice (some ⟨b, o, none⟩) rs.length k]) :: (.slice LA K lk) :: (.string s) :: (.int .i64 ↑s.size) :: (.agg #[.slice none 0 0, .slice none 0 0, .int .i64 ↑s.size, .int .i64 0]) :: (.string s) :: (.agg #[.int .i64 0, .int .i64 0, .int .u8 63]) :: (.slice LA K lk) :: (.agg #[Value.string s, .int .i64 0, .int .i64 0, .int .i64 0, .int .u8 63, .slice LA K lk]) :: (yo1 0) :: (yo1 1) :: (yo1 2) :: (yo1 3) :: (yo1 4) :: (yo1 5) :: (yo1 6) :: (yo1 7) :: (yo1 8) :: (yo1 9) :: (.int .i64 hv) :: (.bool true) :: (yo2 0) :: (yo2 1) :: (yo2 2) :: (yo2 3) :: (yo2 4) :: (yo2 5) :: (yo2 6) :: (yo2 7) :: (yo2 8) :: (yo2 9) :: (.int .i64 hv) :: (.agg #[.int .i64 m, .int .u8 a, .slice (some ⟨b, o, none⟩) rs.length k]) :: (.agg #[Value.string s, .int .i64 ↑i, .int .i64 sa, .int .i64 sb, .int .u8 sc, .slice LA K lk]) :: (.int .i64 ↑j) :: (.slice (some ⟨cg, 0, none⟩) (s.size + 1) (s.size + 1)) :: (.int .i64 hv) :: (.int .i64 hv) :: (.bool false) :: u75 :: u76 :: (.pointer (some ⟨zl, 0, none⟩)) :: (.pointer (some ⟨zl, 1, none⟩)) :: (.slice PA done.length pk) :: (.int .i64 ↑j) :: (.slice (some ⟨w9.heap.size, 0, none⟩) 1 1) :: (.slice A2 (done.length + 1) k2) :: (.pointer (some ⟨zl, 0, none⟩)) :: (.pointer (some ⟨zl, 1, none⟩)) :: y 0 :: y 1 :: y 2 :: y 3 :: y 4 :: y 5 :: y 6 :: y 7 :: y 8 :: u94 :: u95 :: u96 :: u97 :: u98 :: u99 :: u100 :: u101 :: u102 :: u103 :: u104 :: u105 :: u106 :: u107 :: u108 :: u109 :: u110 :: u111 :: u112 :: u113 :: u114 :: u115 :: u116 :: undef :: [])
          (fun _ w' => Below W9.heap.size W9 w') (phiP [pv (.pointer (some ⟨zl, 0, none⟩)), pv (.pointer (some ⟨zl, 0, none⟩)), pv (.slice CA cs.length ck), pv (.pointer (some ⟨q, 2, none⟩)), pv (.slice (some ⟨b, o, none⟩) rs.length k), pv (.int .i64 j), pv (.pointer (some ⟨b, o + j * 6, none⟩)), pv (.pointer (some ⟨b, o + j * 6 + 1, none⟩)), pv (.slice (some ⟨bx, ox, none⟩) x.c.length kx)]) (fun i => match i with | 0 => u85 | 1 => u86 | 2 => u87 | 3 => u88 | 4 => u89 | 5 => u90 | 6 => u91 | 7 => u92 | 8 => u93 | _ => undef)
          (by kernel_rfl) (by kernel_rfl) (by kernel_rfl) (by kernel_rfl) (fun i v wa wb h hb => phiP_keep (stay_cons (pv_st) (stay_cons (pv_st) (stay_cons (pv_st) (stay_cons (pv_st) (stay_cons (pv_st) (stay_cons (pv_st) (stay_cons (pv_st) (stay_cons (pv_st) (stay_cons (pv_st) stay_nil))))))))) h hb) (Below.refl _ _).drew [0, 1, 2, 3, 4, 5, 6, 7, 8] (by kernel_rfl) ?_ ?_
         ·
          refine allCons ?_ (allCons ?_ (allCons ?_ (allCons ?_ (allCons ?_ (allCons ?_ (allCons ?_ (allCons ?_ (allCons ?_ (allNil)))))))))
          all_goals intro y w10 K hS hd hK
          ·
           refine wpOp_step rfl (fun K2 hK2 => ?_)
           go_simp
           exact hK2 _ _ (hK _ _ hS rfl (Below.refl _ _))
          ·
           have e0 : y 0 = _ := hd 0 rfl
           obtain ⟨y, rfl⟩ := upd_at (y := y) (i := 0) e0
           dsimp [upd]
           refine wpOp_step rfl (fun K2 hK2 => ?_)
           go_simp
           exact hK2 _ _ (hK _ _ hS rfl (Below.refl _ _))
          ·
           have e1 : y 1 = _ := hd 1 rfl
           obtain ⟨y, rfl⟩ := upd_at (y := y) (i := 1) e1
           dsimp [upd]
           have q1 := (hS.cell (p := ⟨zl, 0, none⟩) hzl9).trans l0
           refine wpOp_step rfl (fun K2 hK2 => ?_)
           go_simp
           exact hK2 _ _ (hK _ _ hS rfl (Below.refl _ _))
          ·
           refine wpOp_step rfl (fun K2 hK2 => ?_)
           go_simp
           exact hK2 _ _ (hK _ _ hS rfl (Below.refl _ _))
          ·
           have e3 : y 3 = _ := hd 3 rfl
           obtain ⟨y, rfl⟩ := upd_at (y := y) (i := 3) e3
           dsimp [upd]
           have q2 := (hS.cell (p := ⟨q, 2, none⟩) hql9).trans t2
           refine wpOp_step rfl (fun K2 hK2 => ?_)
           go_simp
           exact hK2 _ _ (hK _ _ hS rfl (Below.refl _ _))
          ·
           refine wpOp_step rfl (fun K2 hK2 => ?_)
           go_simp
           exact hK2 _ _ (hK _ _ hS rfl (Below.refl _ _))
          ·
           have e4 : y 4 = _ := hd 4 rfl
           have e5 : y 5 = _ := hd 5 rfl
           obtain ⟨y, rfl⟩ := upd_at (y := y) (i := 4) e4
           obtain ⟨y, rfl⟩ := upd_at (y := y) (i := 5) e5
           dsimp [upd]
           refine wpOp_step rfl (fun K2 hK2 => ?_)
           go_simp
           exact hK2 _ _ (hK _ _ hS rfl (Below.refl _ _))
          ·
           have e6 : y 6 = _ := hd 6 rfl
           obtain ⟨y, rfl⟩ := upd_at (y := y) (i := 6) e6
           dsimp [upd]
           refine wpOp_step rfl (fun K2 hK2 => ?_)
           go_simp
           exact hK2 _ _ (hK _ _ hS rfl (Below.refl _ _))
          ·
           have e7 : y 7 = _ := hd 7 rfl
           obtain ⟨y, rfl⟩ := upd_at (y := y) (i := 7) e7
           dsimp [upd]
           have q3 := (hS.cell (p := ⟨b, o + j * 6 + 1, none⟩) hbl9).trans x1
           refine wpOp_step rfl (fun K2 hK2 => ?_)
           go_simp
           exact hK2 _ _ (hK _ _ hS rfl (Below.refl _ _))
         ·
          intro y w10 f hS hd
          have e2 : y 2 = _ := hd 2 (by decide)
          have e8 : y 8 = _ := hd 8 (by decide)
          clear hd
          obtain ⟨y, rfl⟩ := upd_at (y := y) (i := 2) e2
          obtain ⟨y, rfl⟩ := upd_at (y := y) (i := 8) e8
          dsimp [upd]
          have HL10 := Lib.hid (HLK.out.next hS)
          have HB10 := Lib.hid (hS)
          refine wpAny_one (i := 9) (by kernel_rfl) ?_
          refine wpOp_append_base (pt + 1) (by have := hS.size; have := hpt9; omega) rfl rfl _ _ 32 rfl 96 i1 (.int .u8 0) 1 1 Try.underlying32 hj1 hy0 hy1 hy2 rfl (by decide) (.slice CA cs.length ck) cs.length _ rfl HL10.out.hc ⟨bx, ox, none⟩ x.c.length kx (x.c.map (Value.int .u8)) rfl (by simp) (fun i u hu => hnews w10 hS i u hu) (ints_oneCell .u8 x.c) (by unfold maxLen; omega) (by omega) ?_
          intro v3 w11 hown3 hgr3 _
          obtain ⟨A3, k3, rfl⟩ := own_shape hown3
          have h1b : Blk w11 zl 64 _ := (hgr3.block zl HL10.out.ho.lt (own_ne3 HL10.out.hc HL10.out.ho (by decide)).symm).trans HL10.out.ho
          have l0' := h1b.cell 0
          have f0 := h1b.free 0
          simp only [List.getElem?_toArray, List.getElem?_cons_zero] at l0'
          refine wpAny_one (i := 10) (by kernel_rfl) ?_
          refine wpOp_step rfl (fun K2 hK2 => ?_)
          go_simp
          refine hK2 _ _ ?_
          clear hK2 K2
          refine wpAny_one (i := 11) (by kernel_rfl) ?_
          refine wpOp_step rfl (fun K2 hK2 => ?_)
          go_simp
          refine hK2 _ _ ?_
          clear hK2 K2
          refine wpAny_one (i := 12) (by kernel_rfl) ?_
          refine wpOp_step rfl (fun K2 hK2 => ?_)
          go_simp
          refine hK2 _ _ ?_
          clear hK2 K2
          clear e2 e8
          refine wpAny_done (by kernel_rfl) ?_ _
          obtain ⟨yo4, rfl⟩ : ∃ yo4 : Nat → Value, yo4 = y := ⟨_, rfl⟩
          have HLC := Lib.hid (HL10.out.addC hown3 hgr3)
          have hb10 : Below zl w3 w10 := HBK.out.trans (hS.mono (by omega))
          have hga : Below zl w3 w11 := hb10.grown hgr3 (by have := hS.size; omega) (fun g hg => by have := (HL10.out.hc.lt g hg).1; omega)
          have HBC : Hid (Below zl w3 (w11.setCell ⟨zl, 0, none⟩ (.slice A3 (cs.length + x.c.length) k3))) := hga.setCell (by show zl ≤ zl; exact Nat.le_refl _) _
          have hp10 : Blk w10 pt 128 _ := HPK.out.keep hS HPK.out.lt
          have hp11 : Blk w11 pt 128 _ := (hgr3.block pt hp10.lt (own_ne3 HL10.out.hc hp10 (by decide)).symm).trans hp10
          have HPb : Hid (Blk (w11.setCell ⟨zl, 0, none⟩ (.slice A3 (cs.length + x.c.length) k3)) pt 128 #[.string s, .int .i64 i, .int .i64 sa, .int .i64 sb, .int .u8 sc, .slice LA K lk]) := (Below.heap_setCell w11 ⟨zl, 0, none⟩ _ pt (by show pt ≠ zl; omega)).trans hp11
          clear hown3 hgr3 hga hb10 hp10 hp11 hS HL10 HB10 HLK HBK HPK HTK hnews l0 l0' f0 t2 x1 hzl9 hql9 hpt9 hbl9 h1b HBW9
          generalize w11.setCell ⟨zl, 0, none⟩ (.slice A3 (cs.length + x.c.length) k3) = Wb at *
          have HBWb : Hid (Below w3.heap.size w3 Wb) := by have h := HBC.out; rw [← HZL.out] at h; exact h
          have HTb := Lib.hid (HT3.out.keep HBWb.out HT3.out.lt)
          have t0 := HTb.out.cell 0
          have t1 := HTb.out.cell 1
          have t2 := HTb.out.cell 2
          have p2 := HPb.out.cell 2
          have p3 := HPb.out.cell 3
          have p4 := HPb.out.cell 4
          simp only [List.getElem?_toArray, List.getElem?_cons_zero, List.getElem?_cons_succ] at t0 t1 t2 p2 p3 p4
          go_wp2_with fail
          refine (HSTP.out Wb HBC.out).mono ?_
          rintro e wd ⟨rfl, hbd⟩
          have HLd := Lib.hid (HLC.out.next hbd)
          have HPd := Lib.hid (HPb.out.keep hbd HPb.out.lt)
          have HBd : Hid (Below zl w3 wd) := HBC.out.trans (hbd.mono (by have := HPb.out.lt; omega))
          clear hbd t0 t1 t2 p2 p3 p4 HTb HBWb HBC HLC HPb
          have p2 := HPd.out.cell 2
          have p3 := HPd.out.cell 3
          have p4 := HPd.out.cell 4
          have f2 := HPd.out.free 2
          have f3 := HPd.out.free 3
          have f4 := HPd.out.free 4
          simp only [List.getElem?_toArray, List.getElem?_cons_zero, List.getElem?_cons_succ] at p2 p3 p4
          have HPTc : Hid (Blk (((wd.setCell ⟨pt, 2, none⟩ (.int .i64 ta)).setCell ⟨pt, 3, none⟩ (.int .i64 tb)).setCell ⟨pt, 4, none⟩ (.int .u8 tc)) pt 128 #[.string s, .int .i64 i, .int .i64 ta, .int .i64 tb, .int .u8 tc, .slice LA K lk]) := ((HPd.out.set 2 _).set 3 _).set 4 _
          have key : ∀ b, b ≠ pt → (((wd.setCell ⟨pt, 2, none⟩ (.int .i64 ta)).setCell ⟨pt, 3, none⟩ (.int .i64 tb)).setCell ⟨pt, 4, none⟩ (.int .u8 tc)).heap[b]? = wd.heap[b]? := fun b hb => by
           rw [Below.heap_setCell _ ⟨pt, 4, none⟩ _ b hb, Below.heap_setCell _ ⟨pt, 3, none⟩ _ b hb, Below.heap_setCell _ ⟨pt, 2, none⟩ _ b hb]
          have HLc := Lib.hid (HLd.out.other (key zl (by omega)) (fun b hb => key b (by omega)))
          have HBc : Hid (Below zl w3 (((wd.setCell ⟨pt, 2, none⟩ (.int .i64 ta)).setCell ⟨pt, 3, none⟩ (.int .i64 tb)).setCell ⟨pt, 4, none⟩ (.int .u8 tc))) := ((HBd.out.setCell (by show zl ≤ pt; omega) _).setCell (by show zl ≤ pt; omega) _).setCell (by show zl ≤ pt; omega) _
          clear key
          go_upto_region 16 with fail
          clear p2 p3 p4 f2 f3 f4 HPd HLd HBd
          generalize (((wd.setCell ⟨pt, 2, none⟩ (.int .i64 ta)).setCell ⟨pt, 3, none⟩ (.int .i64 tb)).setCell ⟨pt, 4, none⟩ (.int .u8 tc)) = Wc at *
          have HBWc : Hid (Below w3.heap.size w3 Wc) := by have h := HBc.out; rw [← HZL.out] at h; exact h
          have HTc := Lib.hid (HT3.out.keep HBWc.out HT3.out.lt)
          have t2 := HTc.out.cell 2
          have p1 := HPTc.out.cell 1
          simp only [List.getElem?_toArray, List.getElem?_cons_zero, List.getElem?_cons_succ] at t2 p1
          have hqlc := HTc.out.lt
          have hptc := HPTc.out.lt
          have hblc : b < Wc.heap.size := by omega
          have x0 := (HBc.out.cell (p := ⟨b, o + j * 6, none⟩) hb).trans d0
          obtain ⟨tp, htpE⟩ : ∃ tp, i + x.p.size = tp := ⟨_, rfl⟩
          have htpi : (i : Int) + (x.p.size : Int) = (tp : Int) := by omega
          have hwr : IntKind.i64.wrap (tp : Int) = (tp : Int) := IntWalk.i64_in _ (by omega)
          have HTP2 := Lib.hid htpE
          clear htpE
          refine wp_region_head 11 0 (by kernel_rfl) (fun y => (.agg #[.int .i64 m, .int .u8 a, .slice (some ⟨b, o, none⟩) rs.length k]) :: (.string s) :: (.pointer (some ⟨q, 0, none⟩)) :: undef :: (.pointer (some ⟨r, 0, none⟩)) :: (.int .i64 ↑(textAt (bytes s))) :: (.int .i64 0) :: (.slice (some ⟨cg, 0, none⟩) (s.size + 1) (s.size + 1)) :: (.slice LA K lk) :: (.pointer (some ⟨zl, 0, none⟩)) :: (.pointer (some ⟨pt, 0, none⟩)) :: (.int .i64 hv) :: (.int .i64 ↑j) :: (.tuple #[.int .i64 ↑(textAt (bytes s)), .int .i64 0]) :: (.string s) :: (.tuple #[.int .i64 ↑(textAt (bytes s)), .int .i64 0]) :: (.int .i64 ↑(textAt (bytes s))) :: (.int .i64 0) :: (.int .i64 0) :: (.bool false) :: undef :: undef :: undef :: (.agg #[.int .i64 m, .int .u8 a, .slice (some ⟨b, o, none⟩) rs.length k]) :: (.string s) :: (.slice (some ⟨cg, 0, none⟩) (s.size + 1) (s.size + 1)) :: (.slice (some ⟨cg, 0, none⟩) (s.size + 1) (s.size + 1)) :: (.pointer (some ⟨cg, 0, none⟩)) :: (.slice (some ⟨g 0, 0, none⟩) K K) :: (.pointer (some ⟨g 0, 0, none⟩)) :: (.int .i64 h0) :: (.bool (decide (h0 < 0))) :: undef :: undef :: undef :: undef :: (.agg #[.int .i64 m, .int .u8 a, .slice (some ⟨b, o, none⟩) rs.length k]) :: (.slice LA K lk) :: (.string s) :: (.int .i64 ↑s.size) :: (.agg #[.slice none 0 0, .slice none 0 0, .int .i64 ↑s.size, .int .i64 0]) :: (.string s) :: (.agg #[.int .i64 0, .int .i64 0, .int .u8 63]) :: (.slice LA K lk) :: (.agg #[Value.string s, .int .i64 0, .int .i64 0, .int .i64 0, .int .u8 63, .slice LA K lk]) :: (yo1 0) :: (yo1 1) :: (yo1 2) :: (yo1 3) :: (yo1 4) :: (yo1 5) :: (yo1 6) :: (yo1 7) :: (yo1 8) :: (yo1 9) :: (.int .i64 hv) :: (.bool true) :: (yo2 0) :: (yo2 1) :: (yo2 2) :: (yo2 3) :: (yo2 4) :: (yo2 5) :: (yo2 6) :: (yo2 7) :: (yo2 8) :: (yo2 9) :: (.int .i64 hv) :: (.agg #[.int .i64 m, .int .u8 a, .slice (some ⟨b, o, none⟩) rs.length k]) :: (.agg #[Value.string s, .int .i64 ↑i, .int .i64 sa, .int .i64 sb, .int .u8 sc, .slice LA K lk]) :: (.int .i64 ↑j) :: (.slice (some ⟨cg, 0, none⟩) (s.size + 1) (s.size + 1)) :: (.int .i64 hv) :: (.int .i64 hv) :: (.bool false) :: u75 :: u76 :: (.pointer (some ⟨zl, 0, none⟩)) :: (.pointer (some ⟨zl, 1, none⟩)) :: (.slice PA done.length pk) :: (.int .i64 ↑j) :: (.slice (some ⟨w9.heap.size, 0, none⟩) 1 1) :: (.slice A2 (done.length + 1) k2) :: (.pointer (some ⟨zl, 0, none⟩)) :: (.pointer (some ⟨zl, 1, none⟩)) :: (yo4 0) :: (yo4 1) :: (.slice CA cs.length ck) :: (yo4 3) :: (yo4 4) :: (yo4 5) :: (yo4 6) :: (yo4 7) :: (.slice (some ⟨bx, ox, none⟩) x.c.length kx) :: (.slice A3 (cs.length + x.c.length) k3) :: (.pointer (some ⟨zl, 0, none⟩)) :: (.pointer (some ⟨zl, 0, none⟩)) :: (.tuple #[Value.agg #[.int .i64 ta, .int .i64 tb, .int .u8 tc], .bool true]) :: (.agg #[.int .i64 m, .int .u8 a, .slice (some ⟨b, o, none⟩) rs.length k]) :: (.pointer (some ⟨pt, 2, none⟩)) :: (.agg #[.int .i64 sa, .int .i64 sb, .int .u8 sc]) :: (.int .i64 ↑j) :: (.tuple #[Value.agg #[.int .i64 ta, .int .i64 tb, .int .u8 tc], .bool true]) :: (.agg #[.int .i64 ta, .int .i64 tb, .int .u8 tc]) :: (.bool true) :: (.pointer (some ⟨pt, 2, none⟩)) :: y 0 :: y 1 :: y 2 :: y 3 :: y 4 :: y 5 :: y 6 :: y 7 :: y 8 :: y 9 :: y 10 :: undef :: [])
           (fun _ w' => Below Wc.heap.size Wc w') (phiP [pv (.pointer (some ⟨pt, 1, none⟩)), pv (.int .i64 i), pv (.pointer (some ⟨q, 2, none⟩)), pv (.slice (some ⟨b, o, none⟩) rs.length k), pv (.int .i64 j), pv (.pointer (some ⟨b, o + j * 6, none⟩)), pv (.pointer (some ⟨b, o + j * 6, none⟩)), pv (.string x.p), pv (.int .i64 (x.p.size : Nat)), pv (.int .i64 tp), pv (.pointer (some ⟨pt, 1, none⟩))]) (fun i => match i with | 0 => u106 | 1 => u107 | 2 => u108 | 3 => u109 | 4 => u110 | 5 => u111 | 6 => u112 | 7 => u113 | 8 => u114 | 9 => u115 | 10 => u116 | _ => undef)
           (by kernel_rfl) (by kernel_rfl) (by kernel_rfl) (by kernel_rfl) (fun i v wa wb h hb => phiP_keep (stay_cons (pv_st) (stay_cons (pv_st) (stay_cons (pv_st) (stay_cons (pv_st) (stay_cons (pv_st) (stay_cons (pv_st) (stay_cons (pv_st) (stay_cons (pv_st) (stay_cons (pv_st) (stay_cons (pv_st) (stay_cons (pv_st) stay_nil))))))))))) h hb) (Below.refl _ _).drew [0, 1, 2, 3, 4, 5, 6, 7, 8, 9, 10] (by kernel_rfl) ?_ ?_
          ·
           refine allCons ?_ (allCons ?_ (allCons ?_ (allCons ?_ (allCons ?_ (allCons ?_ (allCons ?_ (allCons ?_ (allCons ?_ (allCons ?_ (allCons ?_ (allNil)))))))))))
           all_goals intro y w10 K hS hd hK
           ·
            refine wpOp_step rfl (fun K2 hK2 => ?_)
            go_simp
            exact hK2 _ _ (hK _ _ hS rfl (Below.refl _ _))
           ·
            have e0 : y 0 = _ := hd 0 rfl
            obtain ⟨y, rfl⟩ := upd_at (y := y) (i := 0) e0
            dsimp [upd]
            have q1 := (hS.cell (p := ⟨pt, 1, none⟩) hptc).trans p1
            refine wpOp_step rfl (fun K2 hK2 => ?_)
            go_simp
            exact hK2 _ _ (hK _ _ hS rfl (Below.refl _ _))
           ·
            refine wpOp_step rfl (fun K2 hK2 => ?_)
            go_simp
            exact hK2 _ _ (hK _ _ hS rfl (Below.refl _ _))
           ·
            have e2 : y 2 = _ := hd 2 rfl
            obtain ⟨y, rfl⟩ := upd_at (y := y) (i := 2) e2
            dsimp [upd]
            have q2 := (hS.cell (p := ⟨q, 2, none⟩) hqlc).trans t2
            refine wpOp_step rfl (fun K2 hK2 => ?_)
            go_simp
            exact hK2 _ _ (hK _ _ hS rfl (Below.refl _ _))
           ·
            refine wpOp_step rfl (fun K2 hK2 => ?_)
            go_simp
            exact hK2 _ _ (hK _ _ hS rfl (Below.refl _ _))
           ·
            have e3 : y 3 = _ := hd 3 rfl
            have e4 : y 4 = _ := hd 4 rfl
            obtain ⟨y, rfl⟩ := upd_at (y := y) (i := 3) e3
            obtain ⟨y, rfl⟩ := upd_at (y := y) (i := 4) e4
            dsimp [upd]
            refine wpOp_step rfl (fun K2 hK2 => ?_)
            go_simp
            exact hK2 _ _ (hK _ _ hS rfl (Below.refl _ _))
           ·
            have e5 : y 5 = _ := hd 5 rfl
            obtain ⟨y, rfl⟩ := upd_at (y := y) (i := 5) e5
            dsimp [upd]
            refine wpOp_step rfl (fun K2 hK2 => ?_)
            go_simp
            exact hK2 _ _ (hK _ _ hS rfl (Below.refl _ _))
           ·
            have e6 : y 6 = _ := hd 6 rfl
            obtain ⟨y, rfl⟩ := upd_at (y := y) (i := 6) e6
            dsimp [upd]
            have q3 := (hS.cell (p := ⟨b, o + j * 6, none⟩) hblc).trans x0
            refine wpOp_step rfl (fun K2 hK2 => ?_)
            go_simp
            exact hK2 _ _ (hK _ _ hS rfl (Below.refl _ _))
           ·
            have e7 : y 7 = _ := hd 7 rfl
            obtain ⟨y, rfl⟩ := upd_at (y := y) (i := 7) e7
            dsimp [upd]
            refine wpOp_step rfl (fun K2 hK2 => ?_)
            go_simp
            exact hK2 _ _ (hK _ _ hS rfl (Below.refl _ _))
           ·
            have e1 : y 1 = _ := hd 1 rfl
            have e8 : y 8 = _ := hd 8 rfl
            obtain ⟨y, rfl⟩ := upd_at (y := y) (i := 1) e1
            obtain ⟨y, rfl⟩ := upd_at (y := y) (i := 8) e8
            dsimp [upd]
            refine wpOp_step rfl (fun K2 hK2 => ?_)
            go_simp
            try rw [hwr]
            exact hK2 _ _ (hK _ _ hS rfl (Below.refl _ _))
           ·
            refine wpOp_step rfl (fun K2 hK2 => ?_)
            go_simp
            exact hK2 _ _ (hK _ _ hS rfl (Below.refl _ _))
          ·
           intro y w10 f hS hd
           have e9 : y 9 = _ := hd 9 (by decide)
           have e10 : y 10 = _ := hd 10 (by decide)
           clear hd
           obtain ⟨y, rfl⟩ := upd_at (y := y) (i := 9) e9
           obtain ⟨y, rfl⟩ := upd_at (y := y) (i := 10) e10
           dsimp [upd]
           have p1' := (hS.cell (p := ⟨pt, 1, none⟩) hptc).trans p1
           have HPT9 := Lib.hid (HPTc.out.keep hS HPTc.out.lt)
           have f1 := HPT9.out.free 1
           refine wpAny_one (i := 11) (by kernel_rfl) ?_
           refine wpOp_step rfl (fun K2 hK2 => ?_)
           go_simp
           refine hK2 _ _ ?_
           clear hK2 K2
           clear e9 e10
           refine wpAny_done (by kernel_rfl) ?_ _
           have HLe := Lib.hid (HLc.out.next hS)
           have HBe : Below zl w3 w10 := HBc.out.trans (hS.mono (by omega))
           have HPe : Hid (Blk (w10.setCell ⟨pt, 1, none⟩ (.int .i64 tp)) pt 128 #[.string s, .int .i64 tp, .int .i64 ta, .int .i64 tb, .int .u8 tc, .slice LA K lk]) := HPT9.out.set 1 _
           have key : ∀ b, b ≠ pt → (w10.setCell ⟨pt, 1, none⟩ (.int .i64 tp)).heap[b]? = w10.heap[b]? := fun b hb => Below.heap_setCell _ ⟨pt, 1, none⟩ _ b hb
           have HLf : Hid (LR (pt + 1) zl s.size (cellsK rs (done ++ [(j : Int)])) (done ++ [(j : Int)]) (.slice A3 (cs.length + x.c.length) k3) (.slice A2 (done.length + 1) k2) (w10.setCell ⟨pt, 1, none⟩ (.int .i64 tp))) := by
            have h := HLe.out.other (key zl (by omega)) (fun b hb => key b (by omega))
            rw [HCK.out]
            exact h
           have HBf : Hid (Below zl w3 (w10.setCell ⟨pt, 1, none⟩ (.int .i64 tp))) := HBe.setCell (by show zl ≤ pt; omega) _
           rw [HTP2.out] at HJP HJL
           clear hS HBe key HLe HLc HBc f1 p1 p1' x0 t2 HPT9 HPTc HTc HBWc hqlc hptc hblc htpi hwr
           go_wp2_with fail
           go_roundg (H (tp, ⟨ta, tb, tc⟩)).toNat
           case measure => rw [HGK.out]; exact HJL.out
           case rel => exact ⟨done ++ [(j : Int)], tp, ⟨ta, tb, tc⟩, _, _, rfl, HJP.out, HLf.out, HPe.out, HBf.out⟩
     ·
      have hdone := prt_end HG.out HFT.out HCH.out HPR.out (by rw [HHV.out]; exact hpos)
      subst hdone
      obtain ⟨CA, ck, rfl⟩ := own_shape HLR7.out.hc
      obtain ⟨PA, pk, rfl⟩ := own_shape HLR7.out.hp
      have l0 := HLR7.out.ho.cell 0
      have l1 := HLR7.out.ho.cell 1
      have l2 := HLR7.out.ho.cell 2
      have l3 := HLR7.out.ho.cell 3
      have HBW8 : Hid (Below w3.heap.size w3 W7) := by have h := HBX7.out; rw [← HZL.out] at h; exact h
      have HZ8 := Lib.hid (HZ3.out.keep HBW8.out HZ3.out.lt)
      have HB8 : Hid (Below w.heap.size w W7) := below_next HBW3.out HBW8.out
      have hrz : r < zl := by have := HZ3.out.lt; rw [HZL.out] at this; exact this
      have z0 := HZ8.out.cell 0
      have z1 := HZ8.out.cell 1
      have z2 := HZ8.out.cell 2
      have z3 := HZ8.out.cell 3
      have f0 := HZ8.out.free 0
      have f1 := HZ8.out.free 1
      have f2 := HZ8.out.free 2
      have f3 := HZ8.out.free 3
      have hp := put4_blk HZ8.out (.slice CA (cellsK rs done).length ck) (.slice PA done.length pk) (.int .i64 s.size) (.int .i64 0)
      have e0 := hp.cell 0
      have e1 := hp.cell 1
      have e2 := hp.cell 2
      have e3 := hp.cell 3
      unfold put4 at e0 e1 e2 e3
      simp only [List.getElem?_toArray, List.getElem?_cons_zero, List.getElem?_cons_succ] at l0 l1 l2 l3 z0 z1 z2 z3 e0 e1 e2 e3
      have HEND : Hid (Wr6End a rs (bytes s) w (.returned (.agg #[.slice CA (cellsK rs done).length ck, .slice PA done.length pk, .int .i64 s.size, .int .i64 0])) (put4 W7 r (.slice CA (cellsK rs done).length ck) (.slice PA done.length pk) (.int .i64 s.size) (.int .i64 0))) := by
       have hh := HLR7.out.other (w' := put4 W7 r (.slice CA (cellsK rs done).length ck) (.slice PA done.length pk) (.int .i64 s.size) (.int .i64 0)) (put4_key (by omega)) (fun b hb => put4_key (by have := HZP.out; omega))
       exact ⟨CA, ck, PA, pk, _, done, s.size, 0, rfl, (own_seqT hh.hc).seq, own_seqN hh.hp, .inr ⟨HT.out, .inl ⟨(best_RP HG.out HFT.out).1 HPB.out, rfl, (bytes_len s).symm, rfl⟩⟩, fun h0 => own_int hh.hp h0, put4_below HB8.out HQR.out⟩
      unfold put4 at HEND
      clear hp HZ8 HLR7 HB8
      go_wp2_with fail
      refine bodyPost_ret (v := .agg #[.slice CA (cellsK rs done).length ck, .slice PA done.length pk, .int .i64 s.size, .int .i64 0]) (by simp [results, Try.results33, go_sem, e0, e1, e2, e3]) rfl HEND.out
 ·
  have he0 : textE (bytes s) = 60 := by
   have h1 := HTE.out
   rw [Bool.eq_false_iff.2 ht] at h1
   unfold textE at h1 ⊢
   split
   ·
    rename_i h2; rw [if_pos h2] at h1; cases h1
   ·
    rfl
  have HT := Lib.hid (Bool.eq_false_iff.2 ht)
  rw [he0] at HTX
  have HZ3 := Lib.hid HP0.out.2.1
  clear he0 ht HTE HP0
  obtain ⟨G, hGt⟩ : ∃ G, textAt (bytes s) = G := ⟨_, rfl⟩
  rw [hGt] at HTX
  have HGT := Lib.hid hGt
  clear hGt
  have z0 := HZ3.out.cell 0
  have z1 := HZ3.out.cell 1
  have z2 := HZ3.out.cell 2
  have z3 := HZ3.out.cell 3
  have f0 := HZ3.out.free 0
  have f1 := HZ3.out.free 1
  have f2 := HZ3.out.free 2
  have f3 := HZ3.out.free 3
  have hp := put4_blk HZ3.out (.slice none 0 0) (.slice none 0 0) (.int .i64 (G : Nat)) (.int .i64 60)
  have e0 := hp.cell 0
  have e1 := hp.cell 1
  have e2 := hp.cell 2
  have e3 := hp.cell 3
  unfold put4 at e0 e1 e2 e3
  simp only [List.getElem?_toArray, List.getElem?_cons_zero, List.getElem?_cons_succ] at z0 z1 z2 z3 e0 e1 e2 e3
  have HEND : Hid (Wr6End a rs (bytes s) w (.returned (.agg #[.slice none 0 0, .slice none 0 0, .int .i64 (G : Nat), .int .i64 60])) (put4 V r (.slice none 0 0) (.slice none 0 0) (.int .i64 (G : Nat)) (.int .i64 60))) :=
   ⟨none, 0, none, 0, [], [], G, 60, rfl, fun h => absurd h (by simp), fun h => absurd h (by simp), .inl ⟨HT.out, rfl, rfl, HGT.out.symm, rfl⟩, fun h => absurd h (by simp), put4_below HBV.out HQR.out⟩
  unfold put4 at HEND
  clear hp HZ3
  go_wp2_with fail
  refine (HTX.out _).mono ?_
  rintro e w1 ⟨rfl, rfl⟩
  go_wp2_with fail
  refine bodyPost_ret (v := .agg #[.slice none 0 0, .slice none 0 0, .int .i64 (G : Nat), .int .i64 60]) (by simp [results, Try.results33, go_sem, e0, e1, e2, e3]) rfl HEND.out
end Go.Proofs.Ytpkdlljefkbmpaa

/-! The reference of package translate: Cost. Arguments that are bytes, with their capacity. -/
namespace Go.Proofs.Ytpkdlljefkbmpaa
open Go.ChangeShapes Go.WideShapes Go.RowKit Go.Deep
section
variable {H : Type} {enc : TypeId × Value → H} {W : World} {base : Nat} {spare : Nat → Bool} {held : Bool}
set_option maxRecDepth 10000 in
theorem open_bytesK {r : Go.Reach} {b0 : Nat} {v : Value} {d : DataW H} {p : List MemPlace} (hv : Value.okWide Try.prog W r b0 25 v) (h : DataW.Trod enc Try.prog W base spare held 25 v d p) :
  ∃ (A : Option Addr) (k : Nat) (xs : List Int), v = .slice A xs.length k ∧ Seq W W.heap.size A xs ∧ (∀ z ∈ xs, 0 ≤ z ∧ z < 256) ∧ xs.length ≤ k := by
 obtain ⟨a, len, cap, rfl⟩ := okWide_slice Try.underlying25 hv
 obtain ⟨fuel, hf⟩ := h
 obtain ⟨A, k, xs, e, h1, h2⟩ := trod_bytes (v := .slice a len cap) hf
 refine ⟨A, k, xs, e, h1, h2, ?_⟩
 rcases open_ints Try.underlying25 Try.underlying5 (by kernel_rfl) (show DataW.trod enc Try.prog W base spare held fuel 25 [Value.slice a len cap] = some (d, p) from hf) with ⟨hcs, _⟩ | ⟨x, l, c, zs, hcs, _, hl, _⟩
 ·
  have h3 : Value.slice a len cap = .slice none 0 0 := by simpa using hcs
  rw [h3] at e
  injection e with e1 e2 e3
  omega
 ·
  have h3 : Value.slice a len cap = .slice (some x) l c := by simpa using hcs
  rw [h3] at e
  injection e with e1 e2 e3
  omega
end
open Go.Maps
set_option maxRecDepth 10000 in
set_option maxHeartbeats 4000000 in
theorem rCost_any (m a : Int) (A : Option Addr) (n k : Nat) (rs : List Rule) (s : ByteArray) (v : Int) (w : World) (hn : rs.length = n) (hR : Rules w w.heap.size A rs) (hG : GoodL m a rs) (hmax : n ≤ 64) (hm : 1 ≤ m ∧ m ≤ 8) (ha : 0 ≤ a ∧ a < 256) (hs : s.size < 2 ^ 28) (hv : CostR a rs (bytes s) v) :
  Calls Try.prog 36 #[.agg #[.int .i64 m, .int .u8 a, .slice A n k], .string s] w fun e w' => e = .returned (.int .i64 v) ∧ Below w.heap.size w w' := by
 have HB := Lib.hid (below_box w #[.int .i64 m, .int .u8 a, .slice A n k] 30)
 have HT := Lib.hid (Blk.new w #[.int .i64 m, .int .u8 a, .slice A n k] 30)
 have HR := Lib.hid (hR.up HB.out)
 have HWR := Lib.hid (fun W (h : Rules W W.heap.size A rs) => write6_any m a A n k rs s W hn h hG hmax hm ha hs)
 have HV := Lib.hid hv
 clear hR hG hn hv
 go_enter Try.func36, Try.ntmps36
 go_upto_region 1 with fail
 generalize w.alloc (.cells #[.int .i64 m, .int .u8 a, .slice A n k] 30) = V at *
 obtain ⟨p, hp⟩ : ∃ p, w.heap.size = p := ⟨_, rfl⟩
 rw [hp] at HT
 simp only [hp]
 have HPW := Lib.hid hp
 clear hp
 have t0 := HT.out.cell 0
 have t1 := HT.out.cell 1
 have t2 := HT.out.cell 2
 simp only [List.getElem?_toArray, List.getElem?_cons_zero, List.getElem?_cons_succ] at t0 t1 t2
 go_wp2_with fail
 refine (HWR.out _ HR.out).mono ?_
 rintro e w1 ⟨CA, ck, PA, pk, cs, ks, pl, er, rfl, hsq, hsn, hwr, _, hb1⟩
 have hbx := below_box w1 #[.slice CA cs.length ck, .slice PA ks.length pk, .int .i64 (pl : Nat), .int .i64 er] 64
 have HBX := Lib.hid (below_next HB.out (below_next hb1 hbx))
 have HX : Hid (Blk (w1.alloc (.cells #[.slice CA cs.length ck, .slice PA ks.length pk, .int .i64 (pl : Nat), .int .i64 er] 64)) w1.heap.size 64 #[.slice CA cs.length ck, .slice PA ks.length pk, .int .i64 (pl : Nat), .int .i64 er]) := Blk.new _ _ _
 have x0 := HX.out.cell 0
 have x3 := HX.out.cell 3
 simp only [List.getElem?_toArray, List.getElem?_cons_zero, List.getElem?_cons_succ] at x0 x3
 have HEV : Hid ((er = 0 → v = (cs.length : Int)) ∧ (er ≠ 0 → v = -1)) := ⟨fun he => costR_one HV.out ⟨cs, ks, pl, er, hwr, .inl ⟨he, rfl⟩⟩, fun he => costR_one HV.out ⟨cs, ks, pl, er, hwr, .inr ⟨he, rfl⟩⟩⟩
 clear hwr hb1 hbx hsq hsn HWR HR t0 t1 t2 HV
 by_cases he : er = 0
 ·
  obtain rfl := HEV.out.1 he
  subst he
  clear HX HEV
  go_wp2_with fail
  go_ret
  exact ⟨rfl, HBX.out⟩
 ·
  obtain rfl := HEV.out.2 he
  have heb : (er != 0) = true := by rw [bne_iff_ne]; exact he
  clear HX HEV he
  go_wp2_with fail
  go_ret
  exact ⟨rfl, HBX.out⟩
end Go.Proofs.Ytpkdlljefkbmpaa
