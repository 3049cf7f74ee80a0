/- Merged by program: Tq6 -/
import Derived.Test.YtpkdlljefkbmpaaT11
import Derived.Test.YtpkdlljefkbmpaaT2
import Derived.Test.YtpkdlljefkbmpaaQ14

/-! The reference of package translate: the costs of all places and states. -/
namespace Go.Proofs.Ytpkdlljefkbmpaa
open Go.RowKit Go.Maps
def PrC (rs : List Rule) (s : List Nat) (H : Nat × St → Int) (v : Nat × St) (r : Nat) : Prop := 0 ≤ aftV rs s H v r → 0 ≤ H v ∧ H v ≤ aftV rs s H v r
structure InP (a : Int) (rs : List Rule) (s : List Nat) (i : Nat) (H : Nat × St → Int) : Prop where
 tgt : ∀ v, TgtE (edgR rs s) (cstR rs) (finR a s) H v
 low : ∀ v, v.1 < i → H v = -1
 cls : ∀ v, i < v.1 → v.1 ≤ s.length → v.2 ∈ (theG rs).1 → ClsE (edgR rs s) (cstR rs) (finR a s) H v
 fin : ∀ st, st ∈ (theG rs).1 → finR a s (i, st) = true → H (i, st) = 0
def startH (a : Int) (rs : List Rule) (s : List Nat) (i : Nat) (H : Nat × St → Int) (v : Nat × St) : Int := if v.1 = i ∧ v.2 ∈ (theG rs).1 ∧ finR a s v = true then 0 else H v
def setH (H : Nat × St → Int) (v : Nat × St) (c : Int) (x : Nat × St) : Int := if x = v then c else H x
section
variable {m a : Int} {rs : List Rule} {s : List Nat} {i : Nat} {H : Nat × St → Int}
theorem inP_start (hG : GoodL m a rs) (hf : ∀ x ∈ rs, x.fits) (hm : 1 ≤ m ∧ m ≤ 8) (h : InvH a rs s (i + 1) H) : InP a rs s i (startH a rs s i H) := by
 have hlow : ∀ v : Nat × St, v.1 = i → H v = -1 := fun v hv => h.low v (by omega)
 refine ⟨tgt_fin h.tgt fun x => ?_, fun v hv => ?_, fun v h1 h2 h3 => ?_, fun st h1 h2 => ?_⟩
 ·
  by_cases e : x.1 = i ∧ x.2 ∈ (theG rs).1 ∧ finR a s x = true
  ·
   refine .inr ⟨e.2.2, by rw [hlow x e.1]; decide, ?_⟩
   unfold startH; rw [if_pos e]
  ·
   refine .inl ?_
   unfold startH; rw [if_neg e]
 ·
  unfold startH
  rw [if_neg (fun e => by omega)]
  exact h.low v (by omega)
 ·
  have h4 := h.cls v (by omega) h2 h3
  have e1 : ∀ u : Nat × St, i < u.1 → startH a rs s i H u = H u := fun u hu => by unfold startH; rw [if_neg (fun e => by omega)]
  refine ⟨fun g => by rw [e1 v h1]; exact h4.1 g, fun k u he hu => ?_⟩
  have h5 := edgR_in hG hf hm h2 h3 he
  rw [e1 u (by omega)] at hu ⊢
  rw [e1 v h1]
  exact h4.2 k u he hu
 ·
  unfold startH
  rw [if_pos ⟨rfl, h1, h2⟩]
theorem inP_set (hG : GoodL m a rs) (hf : ∀ x ∈ rs, x.fits) (hm : 1 ≤ m ∧ m ≤ 8) (h : InP a rs s i H) {st : St} {r : Nat} (h0 : 0 ≤ aftV rs s H (i, st) r) (hlt : H (i, st) < 0 ∨ aftV rs s H (i, st) r < H (i, st)) : InP a rs s i (setH H (i, st) (aftV rs s H (i, st) r)) := by
 obtain ⟨u, he, hu, e⟩ := aft_pos h0
 have hc := (edgR_cst hG _ _ _ he).1
 have ne : ∀ x : Nat × St, x ≠ (i, st) → setH H (i, st) (aftV rs s H (i, st) r) x = H x := fun x hx => by unfold setH; rw [if_neg hx]
 have se : setH H (i, st) (aftV rs s H (i, st) r) (i, st) = aftV rs s H (i, st) r := by unfold setH; rw [if_pos rfl]
 refine ⟨tgt_upd h.tgt he hu hc (by rw [e] at hlt; omega) (by rw [se, e]; omega) ne, fun v hv => ?_, fun v h1 h2 h3 => ?_, fun st' h1 h2 => ?_⟩
 ·
  rw [ne v (fun e => by rw [e] at hv; exact absurd hv (Nat.lt_irrefl _))]
  exact h.low v hv
 ·
  have nv : ∀ x : Nat × St, i < x.1 → x ≠ (i, st) := fun x hx e => by rw [e] at hx; exact absurd hx (Nat.lt_irrefl _)
  have h4 := h.cls v h1 h2 h3
  refine ⟨fun g => by rw [ne v (nv v h1)]; exact h4.1 g, fun k u he hu => ?_⟩
  have h5 := edgR_in hG hf hm h2 h3 he
  rw [ne u (nv u (by omega))] at hu ⊢
  rw [ne v (nv v h1)]
  exact h4.2 k u he hu
 ·
  have h3 := h.fin st' h1 h2
  by_cases e2 : (i, st') = (i, st)
  ·
   rw [e2] at h3; omega
  ·
   rw [ne _ e2]; exact h3
theorem inP_done (h : InP a rs s i H) (hp : ∀ st, st ∈ (theG rs).1 → ∀ r, r < rs.length → PrC rs s H (i, st) r) : InvH a rs s i H := by
 refine ⟨h.tgt, h.low, fun v h1 h2 h3 => ?_⟩
 by_cases e : v.1 = i
 ·
  obtain ⟨vi, st⟩ := v
  obtain rfl : vi = i := e
  refine ⟨fun g => h.fin st h3 g, fun k u he hu => ?_⟩
  obtain ⟨j, rfl, hj, _⟩ := edgR_some he
  have h4 := hp st h3 j hj
  unfold PrC at h4
  rw [aft_some he, if_neg (by omega)] at h4
  have := h4 (by omega)
  omega
 ·
  exact h.cls v (by omega) h2 h3
theorem invH_none : InvH a rs s (s.length + 1) (fun _ => -1) := ⟨fun _ => .inl rfl, fun _ _ => rfl, fun v h1 h2 => by omega⟩
end
theorem lst_ne {h a : Int} (_h1 : -1 ≤ h) (h2 : 0 ≤ a) : leastI h a = h ↔ ¬ (h < 0 ∨ a < h) := by
 unfold leastI
 split
 ·
  rename_i e
  constructor
  ·
   intro g; omega
  ·
   intro g; omega
 ·
  rename_i e
  constructor
  ·
   intro _; omega
  ·
   intro _; rfl
structure SufM (w1 : World) (cg L K lo : Nat) (g : Nat → Nat) (f : Nat → Nat → Int) (w : World) : Prop where
 co : CoI w cg L K lo g f
 bb : Below w1.heap.size w1 w
 bg : ∀ i, lo ≤ i → i < L → w1.heap.size ≤ g i
 bc : w1.heap.size ≤ cg
section
variable {w1 w w' : World} {cg L K lo : Nat} {g : Nat → Nat} {f f' : Nat → Nat → Int}
theorem SufM.next (H : SufM w1 cg L K lo g f w) (hb : Below w.heap.size w w') : SufM w1 cg L K lo g f w' := ⟨H.co.keep hb, below_next H.bb hb, H.bg, H.bc⟩
theorem SufM.congr (H : SufM w1 cg L K lo g f w) (h : ∀ i k, lo ≤ i → i < L → k < K → f i k = f' i k) : SufM w1 cg L K lo g f' w := ⟨H.co.congr h, H.bb, H.bg, H.bc⟩
theorem SufM.put (H : SufM w1 cg L K lo g f w) {i k : Nat} {v : Int} (hi : lo ≤ i) (hL : i < L) (hv : f' i k = v) (ho : ∀ a b, lo ≤ a → a < L → b < K → (a ≠ i ∨ b ≠ k) → f' a b = f a b) : SufM w1 cg L K lo g f' (w.setCell ⟨g i, k, none⟩ (.int .i64 v)) :=
 ⟨H.co.put hi hL hv ho, H.bb.setCell (H.bg i hi hL) _, H.bg, H.bc⟩
theorem SufM.row (H : SufM w1 cg L K (lo + 1) g f w) (hlo : lo < L) (hf : ∀ k, f' lo k = 0) (ho : ∀ a k, lo < a → a < L → k < K → f' a k = f a k) : SufM w1 cg L K lo (fun i => if i = lo then w.heap.size else g i) f' ((w.alloc (.cells (rowOf (fun _ => .int .i64 0) K) 3)).setCell ⟨cg, lo, none⟩ (.slice (some ⟨w.heap.size, 0, none⟩) K K)) := by
 have hbx := below_box w (rowOf (fun _ => .int .i64 0) K) 3
 have hn : Blk (w.alloc (.cells (rowOf (fun _ => .int .i64 0) K) 3)) w.heap.size 3 (rowOf (fun k => .int .i64 (f' lo k)) K) := by
  rw [← rowOf_congr (f := fun _ => .int .i64 0) (g := fun k => .int .i64 (f' lo k)) (n := K) (fun k _ => by rw [hf k])]
  exact Blk.new _ _ _
 refine ⟨coI_row (H.co.keep hbx) hlo (fun i h1 h2 e => ?_) hn ho, (below_next H.bb hbx).setCell H.bc _, fun i h1 h2 => ?_, H.bc⟩
 ·
  have := (H.co.ro i (by omega) h2).lt
  omega
 ·
  show w1.heap.size ≤ (if i = lo then w.heap.size else g i)
  split
  ·
   exact H.bb.size
  ·
   exact H.bg i (by omega) h2
theorem SufM.cells (H : SufM w1 cg L K lo g f w) {i k : Nat} (hi : lo ≤ i) (hL : i < L) (hk : k < K) : w.cell? ⟨cg, i, none⟩ = some (.slice (some ⟨g i, 0, none⟩) K K) ∧ w.cell? ⟨g i, k, none⟩ = some (.int .i64 (f i k)) := by
 have h1 := H.co.co.cell i
 rw [rowOf_get _ _ _ hL, if_pos hi] at h1
 have h2 := (H.co.ro i hi hL).cell k
 rw [rowOf_get _ _ _ hk] at h2
 exact ⟨h1, h2⟩
end
def SufEnd (a : Int) (rs : List Rule) (s : List Nat) (w : World) (e : Ending) (w' : World) : Prop := ∃ cg g H, e = .returned (.slice (some ⟨cg, 0, none⟩) (s.length + 1) (s.length + 1)) ∧ SufM w cg (s.length + 1) (theG rs).1.length 0 g (fH rs H) w' ∧ InvH a rs s 0 H
def firstF (a : Int) (rs : List Rule) (s : List Nat) (H : Nat × St → Int) (i c : Nat) (x y : Nat) : Int := if x = i then (if y < c then (if finR a s (i, (theG rs).1.getD y St.start) = true then 0 else -1) else 0) else fH rs H x y
def midF (a : Int) (rs : List Rule) (s : List Nat) (H : Nat × St → Int) (i c : Nat) (x y : Nat) : Int := if x = i ∧ y = c then -1 else firstF a rs s H i c x y
theorem first_next (a : Int) (rs : List Rule) (s : List Nat) (H : Nat × St → Int) (i c x y : Nat) : firstF a rs s H i (c + 1) x y = if x = i ∧ y = c then (if finR a s (i, (theG rs).1.getD c St.start) = true then 0 else -1) else firstF a rs s H i c x y := by
 by_cases h1 : x = i
 ·
  by_cases h2 : y = c
  ·
   subst h1 h2; simp [firstF]
  ·
   have h3 : (y < c + 1) = (y < c) := propext (by omega)
   simp [firstF, h2, h3]
 ·
  simp [firstF, h1]
theorem first_mid {a : Int} {rs : List Rule} {s : List Nat} {H : Nat × St → Int} {i c : Nat} (h : finR a s (i, (theG rs).1.getD c St.start) = false) (x y : Nat) : midF a rs s H i c x y = firstF a rs s H i (c + 1) x y := by
 rw [first_next, h, if_neg Bool.false_ne_true]
 rfl
theorem first_end {a : Int} {rs : List Rule} {s : List Nat} {H : Nat × St → Int} {i : Nat} (hl : ∀ v : Nat × St, v.1 = i → H v = -1) (x y : Nat) (hy : y < (theG rs).1.length) : firstF a rs s H i (theG rs).1.length x y = fH rs (startH a rs s i H) x y := by
 unfold firstF fH startH
 have hm : (theG rs).1.getD y St.start ∈ (theG rs).1 := by rw [stk_at hy]; exact List.getElem_mem _
 by_cases h1 : x = i
 ·
  subst h1
  rw [if_pos rfl, if_pos hy]
  by_cases h2 : finR a s (x, (theG rs).1.getD y St.start) = true
  ·
   rw [if_pos h2, if_pos ⟨rfl, hm, h2⟩]
  ·
   rw [if_neg h2, if_neg (fun e => h2 e.2.2), hl _ rfl]
 ·
  rw [if_neg h1, if_neg (fun e => h1 e.1)]
set_option maxRecDepth 10000 in
set_option maxHeartbeats 8000000 in
theorem suffixes_any (m a : Int) (A : Option Addr) (n k : Nat) (rs : List Rule) (s : ByteArray) (w : World) (hn : rs.length = n) (hR : Rules w w.heap.size A rs) (hG : GoodL m a rs) (hmax : n ≤ 64) (hm : 1 ≤ m ∧ m ≤ 8) (ha : 0 ≤ a ∧ a < 256) (hs : s.size < 2 ^ 36) :
  Calls Try.prog 75 #[.agg #[.int .i64 m, .int .u8 a, .slice A n k], .string s] w (SufEnd a rs (bytes s) w) := by
 subst hn
 obtain ⟨K, hK⟩ : ∃ K, (theG rs).1.length = K := ⟨_, rfl⟩
 have hft := hR.fit
 have hK1 : K ≤ 3072 := by rw [← hK]; exact (theG_ok hG hft hm.1).le ⟨by omega, hm.2⟩
 have HKE := Lib.hid hK
 have HG := Lib.hid hG
 have HFT := Lib.hid hft
 have HBD : Hid (∀ H, (∀ v, TgtE (edgR rs (bytes s)) (cstR rs) (finR a (bytes s)) H v) → ∀ v : Nat × St, v.1 ≤ s.size → v.2 ∈ (theG rs).1 → -1 ≤ H v ∧ H v ≤ (4 * ((s.size + 1) * K) : Nat)) := fun H h v h1 h2 => by
  have h3 := InvH.bound hG hft hm h (v := v) (by rw [bytes_len]; exact h1) h2
  rw [bytes_len, hK] at h3
  exact h3
 obtain ⟨Bd, hBd⟩ : ∃ Bd, 4 * ((s.size + 1) * K) = Bd := ⟨_, rfl⟩
 have hBd2 : Bd ≤ 2 ^ 50 := by
  rw [← hBd]
  have : (s.size + 1) * K ≤ (2 ^ 36) * 3072 := Nat.mul_le_mul (by omega) hK1
  omega
 rw [hBd] at HBD
 have HTB : Hid (Blk (w.alloc (.cells #[.int .i64 m, .int .u8 a, .slice A rs.length k] 30)) w.heap.size 30 #[.int .i64 m, .int .u8 a, .slice A rs.length k]) := Blk.new _ _ _
 have HBV : Hid (Below w.heap.size w (w.alloc (.cells #[.int .i64 m, .int .u8 a, .slice A rs.length k] 30))) := below_box _ _ _
 have HR := Lib.hid (hR.up HBV.out)
 have HAC := Lib.hid (good_acc hG ha)
 clear hR hG hft hK hBd
 go_enter Try.func75, Try.ntmps75
 go_wp2_with fail
 generalize w.alloc (.cells #[.int .i64 m, .int .u8 a, .slice A rs.length k] 30) = V at *
 obtain ⟨q, hq⟩ : ∃ q, w.heap.size = q := ⟨_, rfl⟩
 rw [hq] at HTB
 simp only [hq]
 have HQ := Lib.hid hq
 clear hq
 refine (rStates_any m a A rs.length k rs V rfl HR.out HG.out hmax hm).mono ?_
 rintro e w1 ⟨LA, lk, rfl, hst, hb1⟩
 rw [HKE.out]
 have HST := Lib.hid hst
 have HT1 := Lib.hid (HTB.out.keep hb1 HTB.out.lt)
 have HR1 := Lib.hid (HR.out.up hb1)
 have HB1 := Lib.hid (below_next HBV.out hb1)
 have HQ1 : Hid (q < w1.heap.size) := HT1.out.lt
 clear hst hb1 HR HTB HBV
 have hmk : (Instr.makeSlice 72 (.int .i64 ((s.size : Int) + 1)) (.int .i64 ((s.size : Int) + 1))).run Try.prog w1 = .ok (.slice (some ⟨w1.heap.size, 0, none⟩) (s.size + 1) (s.size + 1)) (w1.alloc (.cells (rowOf (fun _ => .slice none 0 0) (s.size + 1)) 43)) := by
  have h := make_rows w1 (s.size + 1) (by omega)
  rw [Int.natCast_add] at h
  exact h
 have hsz0 : (0 : Int) ≤ (s.size : Int) := by omega
 have HM0 : Hid (SufM w1 w1.heap.size (s.size + 1) K (s.size + 1) (fun _ => 0) (fH rs (fun _ => -1)) (w1.alloc (.cells (rowOf (fun _ => .slice none 0 0) (s.size + 1)) 43))) := by
  have hn : Blk (w1.alloc (.cells (rowOf (fun _ => .slice none 0 0) (s.size + 1)) 43)) w1.heap.size 43 (rowOf (fun i => if s.size + 1 ≤ i then .slice (some ⟨0, 0, none⟩) K K else .slice none 0 0) (s.size + 1)) := by
   rw [← rowOf_congr (f := fun _ => .slice none 0 0) (g := fun i => if s.size + 1 ≤ i then .slice (some ⟨0, 0, none⟩) K K else .slice none 0 0) (n := s.size + 1) (fun i hi => by rw [if_neg (by omega)])]
   exact Blk.new _ _ _
  exact ⟨⟨hn, fun i h1 h2 => by omega, fun i j h1 h2 h3 => by omega⟩, below_box _ _ _, fun i h1 h2 => by omega, Nat.le_refl _⟩
 go_upto_region 3 with fail
 clear hmk
 generalize w1.alloc (.cells (rowOf (fun _ => .slice none 0 0) (s.size + 1)) 43) = w2 at *
 obtain ⟨cg, hcg⟩ : ∃ cg, w1.heap.size = cg := ⟨_, rfl⟩
 have HM1 := HM0
 rw [hcg] at HM1
 simp only [hcg]
 have HCG := Lib.hid hcg
 clear hcg HM0
 have HI0 : Hid (InvH a rs (bytes s) (s.size + 1) (fun _ => -1)) := by
  have h := invH_none (a := a) (rs := rs) (s := bytes s)
  rw [bytes_len] at h
  exact h
 go_wp2_with fail
 go_loopg [7] (s.size + 1) (fun gk s7 wx => ∃ (p : Nat) (g : Nat → Nat) (H : Nat × St → Int), p ≤ s.size + 1 ∧ gk = p ∧ s7 = .int .i64 ((p : Int) - 1) ∧ SufM w1 cg (s.size + 1) K p g (fH rs H) wx ∧ InvH a rs (bytes s) p H)
 case atStart => exact ⟨s.size + 1, _, _, Nat.le_refl _, rfl, by go_num, HM1.out, HI0.out⟩
 case round =>
  obtain ⟨p, g, H, hp, hgk, rfl, hsm, hinv⟩ := hrel
  clear HM1 HI0
  have HSM := Lib.hid hsm
  have HIN := Lib.hid hinv
  have HGK := Lib.hid hgk
  clear hsm hinv hgk
  rcases Nat.eq_zero_or_pos p with rfl | hpos
  ·
   have HEND : Hid (SufEnd a rs (bytes s) w (.returned (.slice (some ⟨cg, 0, none⟩) (s.size + 1) (s.size + 1))) wr) := by
    refine ⟨cg, g, H, by rw [bytes_len], ?_, HIN.out⟩
    rw [bytes_len, HKE.out]
    have h := HSM.out
    exact ⟨h.co, below_next HB1.out h.bb, fun i h1 h2 => Nat.le_trans HB1.out.size (h.bg i h1 h2), Nat.le_trans HB1.out.size h.bc⟩
   clear HSM HIN HGK
   go_wp2_with fail
   go_ret
   exact HEND.out
  ·
   obtain ⟨i, rfl⟩ : ∃ i, p = i + 1 := ⟨p - 1, by omega⟩
   have hi1 : i ≤ s.size := by omega
   have e1 : (((i + 1 : Nat) : Int) - 1) = (i : Int) := by omega
   rw [e1]
   have hi0 : (0 : Int) ≤ (i : Int) := by omega
   have hil : (i : Int) < (s.size : Int) + 1 := by omega
   have HMR := Lib.hid (HSM.out.row (f' := firstF a rs (bytes s) H i 0) (by omega) (fun k => by unfold firstF; rw [if_pos rfl, if_neg (Nat.not_lt_zero _)]) (fun x y h1 h2 h3 => by unfold firstF; rw [if_neg (by omega)]))
   have hmk := make_int wr K (by omega)
   have hbx := below_box wr (rowOf (fun _ => .int .i64 0) K) 3
   have f0 := (HSM.out.co.co.keep hbx HSM.out.co.co.lt).free i
   have c0 := (HSM.out.co.co.keep hbx HSM.out.co.co.lt).cell i
   rw [rowOf_get _ _ _ (by omega), if_neg (by omega)] at c0
   have hK0 : (0 : Int) ≤ (K : Int) := by omega
   clear hbx
   go_upto_region 7 with fail
   clear f0 c0 hmk HSM hK0
   generalize hW2 : (wr.alloc (.cells (rowOf (fun _ => .int .i64 0) K) 3)).setCell ⟨cg, i, none⟩ (.slice (some ⟨wr.heap.size, 0, none⟩) K K) = W2 at *
   generalize (fun x => if x = i then wr.heap.size else g x) = g2 at *
   clear hW2
   obtain ⟨nb, hnb⟩ : ∃ nb, wr.heap.size = nb := ⟨_, rfl⟩
   simp only [hnb]
   clear hnb
   have hie : i < s.size + 1 := by omega
   go_wp2_with fail
   go_loopg [8] K (fun gk s8 wx => ∃ c : Nat, c ≤ K ∧ gk = K - c ∧ s8 = .int .i64 c ∧ SufM w1 cg (s.size + 1) K i g2 (firstF a rs (bytes s) H i c) wx)
   case atStart => exact ⟨0, Nat.zero_le _, rfl, rfl, HMR.out⟩
   case round =>
    obtain ⟨c, hc, hgc, rfl, hsm⟩ := hrel
    clear HMR
    have HSM := Lib.hid hsm
    have HGC := Lib.hid hgc
    clear hsm hgc
    have hc0 : (0 : Int) ≤ (c : Int) := by omega
    by_cases hlt : c < K
    ·
     have hcn : (c : Int) < (K : Int) := by omega
     have HMM := Lib.hid (HSM.out.put (f' := midF a rs (bytes s) H i c) (v := -1) (Nat.le_refl _) hie (by unfold midF; rw [if_pos ⟨rfl, rfl⟩]) (fun x y h1 h2 h3 h4 => by unfold midF; rw [if_neg (by omega)]))
     obtain ⟨r0, r1⟩ := HSM.out.cells (k := c) (Nat.le_refl _) hie hlt
     have f1 := (HSM.out.co.ro i (Nat.le_refl _) hie).free c
     have HTX : Hid (Blk (wr.setCell ⟨g2 i, c, none⟩ (.int .i64 (-1))) q 30 #[.int .i64 m, .int .u8 a, .slice A rs.length k]) := HT1.out.keep HMM.out.bb HT1.out.lt
     have HSL : Hid (StAt (wr.setCell ⟨g2 i, c, none⟩ (.int .i64 (-1))) (wr.setCell ⟨g2 i, c, none⟩ (.int .i64 (-1))).heap.size LA (theG rs).1) := HST.out.up HMM.out.bb
     go_upto_region 11 with fail
     clear r0 r1 f1 HSM
     generalize wr.setCell ⟨g2 i, c, none⟩ (.int .i64 (-1)) = W1 at *
     have hql := HTX.out.lt
     have t0 := HTX.out.cell 0
     have t1 := HTX.out.cell 1
     have t2 := HTX.out.cell 2
     simp only [List.getElem?_toArray, List.getElem?_cons_zero, List.getElem?_cons_succ] at t0 t1 t2
     obtain ⟨lb, hlb, hlbl, hlc⟩ := HSL.out (by rw [HKE.out]; omega)
     obtain ⟨l0, l1, l2⟩ := hlc c (by rw [HKE.out]; exact hlt)
     have hsk : (theG rs).1.getD c St.start = (theG rs).1[c]'(by rw [HKE.out]; exact hlt) := stk_at (by rw [HKE.out]; exact hlt)
     rw [← hsk] at l0 l1 l2
     have HMS : Hid ((theG rs).1.getD c St.start ∈ (theG rs).1) := by unfold Hid; rw [hsk]; exact List.getElem_mem _
     have HS2 : Hid (((theG rs).1.getD c St.start).fits) := ((theG_ok HG.out HFT.out hm.1).1 _ HMS.out).fit hm.2
     have HF : Hid (finR a (bytes s) (i, (theG rs).1.getD c St.start) = (decide (i = s.size) && accB a ((theG rs).1.getD c St.start))) := by unfold Hid finR; rw [bytes_len]
     have HFM := Lib.hid (fun h => @first_mid a rs (bytes s) H i c h)
     have HFN := Lib.hid (first_next a rs (bytes s) H i c)
     clear hlc hsk HMS HSL
     subst hlb
     generalize (theG rs).1.getD c St.start = st at *
     obtain ⟨fb, hfb⟩ : ∃ fb, finR a (bytes s) (i, st) = fb := ⟨_, rfl⟩
     rw [hfb] at HF HFM HFN
     clear hfb
     rcases Nat.lt_or_ge i s.size with hne | hge
     ·
      have hneb : ((i : Int) == (s.size : Int)) = false := by rw [beq_eq_false_iff_ne]; omega
      have hnei : ¬ (i : Int) = (s.size : Int) := by omega
      obtain rfl : fb = false := by rw [HF.out, decide_eq_false (by omega)]; rfl
      clear HF hne
      refine wp_region_head 11 0 (by kernel_rfl) (fun y => (.agg #[.int .i64 m, .int .u8 a, .slice A rs.length k]) :: (.string s) :: (.pointer (some ⟨q, 0, none⟩)) :: undef :: (.slice none 0 0) :: (.slice (some ⟨lb, 0, none⟩) K lk) :: (.slice (some ⟨cg, 0, none⟩) (s.size + 1) (s.size + 1)) :: (.int .i64 ↑i) :: (.int .i64 ↑c) :: u9 :: u10 :: u11 :: u12 :: (.agg #[.int .i64 m, .int .u8 a, .slice A rs.length k]) :: (.slice (some ⟨lb, 0, none⟩) K lk) :: (.string s) :: (.int .i64 ↑s.size) :: (.int .i64 (↑s.size + 1)) :: (.slice (some ⟨cg, 0, none⟩) (s.size + 1) (s.size + 1)) :: (.string s) :: (.int .i64 ↑s.size) :: (.int .i64 ↑i) :: (.bool true) :: u23 :: u24 :: (.slice (some ⟨cg, 0, none⟩) (s.size + 1) (s.size + 1)) :: (.int .i64 ↑i) :: (.slice (some ⟨lb, 0, none⟩) K lk) :: (.int .i64 ↑K) :: (.slice (some ⟨nb, 0, none⟩) K K) :: (.pointer (some ⟨cg, i, none⟩)) :: (.int .i64 ↑c) :: (.slice (some ⟨lb, 0, none⟩) K lk) :: (.int .i64 ↑K) :: (.bool true) :: u35 :: u36 :: (.slice (some ⟨cg, 0, none⟩) (s.size + 1) (s.size + 1)) :: (.int .i64 ↑i) :: (.pointer (some ⟨cg, i, none⟩)) :: (.slice (some ⟨g2 i, 0, none⟩) K K) :: (.int .i64 ↑c) :: (.pointer (some ⟨g2 i, c, none⟩)) :: y 0 :: y 1 :: y 2 :: y 3 :: y 4 :: y 5 :: y 6 :: y 7 :: y 8 :: y 9 :: y 10 :: u54 :: u55 :: u56 :: u57 :: u58 :: u59 :: u60 :: u61 :: u62 :: u63 :: u64 :: u65 :: u66 :: u67 :: u68 :: u69 :: u70 :: u71 :: u72 :: u73 :: u74 :: u75 :: u76 :: u77 :: u78 :: u79 :: u80 :: u81 :: u82 :: u83 :: u84 :: u85 :: u86 :: u87 :: u88 :: u89 :: u90 :: u91 :: u92 :: u93 :: u94 :: u95 :: u96 :: u97 :: u98 :: u99 :: u100 :: u101 :: u102 :: u103 :: u104 :: u105 :: u106 :: u107 :: u108 :: u109 :: u110 :: u111 :: u112 :: u113 :: u114 :: undef :: [])
       (fun _ w' => Below W1.heap.size W1 w') (phiP [pv (.int .i64 i), pv (.string s), pv (.int .i64 (s.size : Nat)), pv (.bool false), pv (.bool false), pv (undef), pv (undef), pv (undef), pv (undef), pv (undef), pv (undef)]) (fun i => match i with | 0 => u43 | 1 => u44 | 2 => u45 | 3 => u46 | 4 => u47 | 5 => u48 | 6 => u49 | 7 => u50 | 8 => u51 | 9 => u52 | 10 => u53 | _ => undef)
       (by kernel_rfl) (by kernel_rfl) (by kernel_rfl) (by kernel_rfl) (fun i v wa wb h hb => phiP_keep (stay_cons (pv_st) (stay_cons (pv_st) (stay_cons (pv_st) (stay_cons (pv_st) (stay_cons (pv_st) (stay_cons (pv_st) (stay_cons (pv_st) (stay_cons (pv_st) (stay_cons (pv_st) (stay_cons (pv_st) (stay_cons (pv_st) stay_nil))))))))))) h hb) (Below.refl _ _).drew [0, 1, 2, 3, 4, 5, 6, 7, 8, 9, 10] (by kernel_rfl) ?_ ?_
      ·
       refine allCons ?_ (allCons ?_ (allCons ?_ (allCons ?_ (allCons ?_ (allCons ?_ (allCons ?_ (allCons ?_ (allCons ?_ (allCons ?_ (allCons ?_ (allNil)))))))))))
       all_goals intro y w10 K hS hd hK
       ·
        refine wpOp_step rfl (fun K2 hK2 => ?_)
        go_simp
        exact hK2 _ _ (hK _ _ hS rfl (Below.refl _ _))
       ·
        refine wpOp_step rfl (fun K2 hK2 => ?_)
        go_simp
        exact hK2 _ _ (hK _ _ hS rfl (Below.refl _ _))
       ·
        have e1 : y 1 = _ := hd 1 rfl
        obtain ⟨y, rfl⟩ := upd_at (y := y) (i := 1) e1
        dsimp [upd]
        refine wpOp_step rfl (fun K2 hK2 => ?_)
        go_simp
        exact hK2 _ _ (hK _ _ hS rfl (Below.refl _ _))
       ·
        have e0 : y 0 = _ := hd 0 rfl
        have e2 : y 2 = _ := hd 2 rfl
        obtain ⟨y, rfl⟩ := upd_at (y := y) (i := 0) e0
        obtain ⟨y, rfl⟩ := upd_at (y := y) (i := 2) e2
        dsimp [upd]
        refine wpOp_step rfl (fun K2 hK2 => ?_)
        go_simp
        exact hK2 _ _ (hK _ _ hS rfl (Below.refl _ _))
       ·
        have e3 : y 3 = _ := hd 3 rfl
        obtain ⟨y, rfl⟩ := upd_at (y := y) (i := 3) e3
        dsimp [upd]
        refine wpOp_step rfl (fun K2 hK2 => ?_)
        go_simp
        exact hK2 _ _ (hK _ _ hS rfl (Below.refl _ _))
       ·
        have e4 : y 4 = _ := hd 4 rfl
        obtain ⟨y, rfl⟩ := upd_at (y := y) (i := 4) e4
        dsimp [upd]
        refine wpOp_step rfl (fun K2 hK2 => ?_)
        go_simp
        exact hK2 _ _ (hK _ _ hS rfl (Below.refl _ _))
       ·
        have e4 : y 4 = _ := hd 4 rfl
        obtain ⟨y, rfl⟩ := upd_at (y := y) (i := 4) e4
        dsimp [upd]
        refine wpOp_step rfl (fun K2 hK2 => ?_)
        go_simp
        exact hK2 _ _ (hK _ _ hS rfl (Below.refl _ _))
       ·
        have e4 : y 4 = _ := hd 4 rfl
        obtain ⟨y, rfl⟩ := upd_at (y := y) (i := 4) e4
        dsimp [upd]
        refine wpOp_step rfl (fun K2 hK2 => ?_)
        go_simp
        exact hK2 _ _ (hK _ _ hS rfl (Below.refl _ _))
       ·
        have e4 : y 4 = _ := hd 4 rfl
        obtain ⟨y, rfl⟩ := upd_at (y := y) (i := 4) e4
        dsimp [upd]
        refine wpOp_step rfl (fun K2 hK2 => ?_)
        go_simp
        exact hK2 _ _ (hK _ _ hS rfl (Below.refl _ _))
       ·
        have e4 : y 4 = _ := hd 4 rfl
        obtain ⟨y, rfl⟩ := upd_at (y := y) (i := 4) e4
        dsimp [upd]
        refine wpOp_step rfl (fun K2 hK2 => ?_)
        go_simp
        exact hK2 _ _ (hK _ _ hS rfl (Below.refl _ _))
       ·
        have e4 : y 4 = _ := hd 4 rfl
        obtain ⟨y, rfl⟩ := upd_at (y := y) (i := 4) e4
        dsimp [upd]
        refine wpOp_step rfl (fun K2 hK2 => ?_)
        go_simp
        exact hK2 _ _ (hK _ _ hS rfl (Below.refl _ _))
      ·
       intro y w10 f hS hd
       have e4 : y 4 = _ := hd 4 (by decide)
       clear hd
       obtain ⟨y, rfl⟩ := upd_at (y := y) (i := 4) e4
       dsimp [upd]
       refine wpAny_one (i := 11) (by kernel_rfl) ?_
       refine wpOp_step rfl (fun K2 hK2 => ?_)
       go_simp
       refine hK2 _ _ ?_
       clear hK2 K2 e4
       refine wpAny_done (by kernel_rfl) ?_ _
       have HM2 := Lib.hid ((HMM.out.next hS).congr (fun x y _ _ _ => HFM.out rfl x y))
       clear hS
       go_wp2_with fail
       go_roundg (K - (c + 1))
       case measure => rw [HGC.out]; omega
       case rel => exact ⟨c + 1, hlt, rfl, by go_num, HM2.out⟩
     ·
      obtain rfl : i = s.size := by omega
      have HAB : Hid (fb = accB a st) := by unfold Hid; rw [HF.out, decide_eq_true rfl, Bool.true_and]
      have HACC : Hid (∀ W : World, Calls Try.prog 64 #[.agg #[.int .i64 m, .int .u8 a, .slice A rs.length k], .agg #[.int .i64 st.mode, .int .i64 st.last, .int .u8 st.need]] W fun e w' => e = .returned (.bool fb) ∧ Below W.heap.size W w') := fun W => by
       have h := rAccepts_any m a A rs.length k st ha HS2.out W
       rw [HAC.out st, ← HAB.out] at h
       exact h
      clear HF HAB HS2
      obtain ⟨sa, sb, sc⟩ := st
      dsimp only at l0 l1 l2 HACC
      refine wp_region_head 11 0 (by kernel_rfl) (fun y => (.agg #[.int .i64 m, .int .u8 a, .slice A rs.length k]) :: (.string s) :: (.pointer (some ⟨q, 0, none⟩)) :: undef :: (.slice none 0 0) :: (.slice (some ⟨lb, 0, none⟩) K lk) :: (.slice (some ⟨cg, 0, none⟩) (s.size + 1) (s.size + 1)) :: (.int .i64 ↑s.size) :: (.int .i64 ↑c) :: u9 :: u10 :: u11 :: u12 :: (.agg #[.int .i64 m, .int .u8 a, .slice A rs.length k]) :: (.slice (some ⟨lb, 0, none⟩) K lk) :: (.string s) :: (.int .i64 ↑s.size) :: (.int .i64 (↑s.size + 1)) :: (.slice (some ⟨cg, 0, none⟩) (s.size + 1) (s.size + 1)) :: (.string s) :: (.int .i64 ↑s.size) :: (.int .i64 ↑s.size) :: (.bool true) :: u23 :: u24 :: (.slice (some ⟨cg, 0, none⟩) (s.size + 1) (s.size + 1)) :: (.int .i64 ↑s.size) :: (.slice (some ⟨lb, 0, none⟩) K lk) :: (.int .i64 ↑K) :: (.slice (some ⟨nb, 0, none⟩) K K) :: (.pointer (some ⟨cg, s.size, none⟩)) :: (.int .i64 ↑c) :: (.slice (some ⟨lb, 0, none⟩) K lk) :: (.int .i64 ↑K) :: (.bool true) :: u35 :: u36 :: (.slice (some ⟨cg, 0, none⟩) (s.size + 1) (s.size + 1)) :: (.int .i64 ↑s.size) :: (.pointer (some ⟨cg, s.size, none⟩)) :: (.slice (some ⟨g2 s.size, 0, none⟩) K K) :: (.int .i64 ↑c) :: (.pointer (some ⟨g2 s.size, c, none⟩)) :: y 0 :: y 1 :: y 2 :: y 3 :: y 4 :: y 5 :: y 6 :: y 7 :: y 8 :: y 9 :: y 10 :: u54 :: u55 :: u56 :: u57 :: u58 :: u59 :: u60 :: u61 :: u62 :: u63 :: u64 :: u65 :: u66 :: u67 :: u68 :: u69 :: u70 :: u71 :: u72 :: u73 :: u74 :: u75 :: u76 :: u77 :: u78 :: u79 :: u80 :: u81 :: u82 :: u83 :: u84 :: u85 :: u86 :: u87 :: u88 :: u89 :: u90 :: u91 :: u92 :: u93 :: u94 :: u95 :: u96 :: u97 :: u98 :: u99 :: u100 :: u101 :: u102 :: u103 :: u104 :: u105 :: u106 :: u107 :: u108 :: u109 :: u110 :: u111 :: u112 :: u113 :: u114 :: undef :: [])
       (fun _ w' => Below W1.heap.size W1 w') (phiP [pv (.int .i64 (s.size : Nat)), pv (.string s), pv (.int .i64 (s.size : Nat)), pv (.bool true), pv (.bool true), pv (.agg #[.int .i64 m, .int .u8 a, .slice A rs.length k]), pv (.slice (some ⟨lb, 0, none⟩) K lk), pv (.int .i64 c), pv (.pointer (some ⟨lb, c * 3, none⟩)), pv (.agg #[.int .i64 sa, .int .i64 sb, .int .u8 sc]), pv (.bool fb)]) (fun i => match i with | 0 => u43 | 1 => u44 | 2 => u45 | 3 => u46 | 4 => u47 | 5 => u48 | 6 => u49 | 7 => u50 | 8 => u51 | 9 => u52 | 10 => u53 | _ => undef)
       (by kernel_rfl) (by kernel_rfl) (by kernel_rfl) (by kernel_rfl) (fun i v wa wb h hb => phiP_keep (stay_cons (pv_st) (stay_cons (pv_st) (stay_cons (pv_st) (stay_cons (pv_st) (stay_cons (pv_st) (stay_cons (pv_st) (stay_cons (pv_st) (stay_cons (pv_st) (stay_cons (pv_st) (stay_cons (pv_st) (stay_cons (pv_st) stay_nil))))))))))) h hb) (Below.refl _ _).drew [0, 1, 2, 3, 4, 5, 6, 7, 8, 9, 10] (by kernel_rfl) ?_ ?_
      ·
       refine allCons ?_ (allCons ?_ (allCons ?_ (allCons ?_ (allCons ?_ (allCons ?_ (allCons ?_ (allCons ?_ (allCons ?_ (allCons ?_ (allCons ?_ (allNil)))))))))))
       all_goals intro y w10 K hS hd hK
       ·
        refine wpOp_step rfl (fun K2 hK2 => ?_)
        go_simp
        exact hK2 _ _ (hK _ _ hS rfl (Below.refl _ _))
       ·
        refine wpOp_step rfl (fun K2 hK2 => ?_)
        go_simp
        exact hK2 _ _ (hK _ _ hS rfl (Below.refl _ _))
       ·
        have e1 : y 1 = _ := hd 1 rfl
        obtain ⟨y, rfl⟩ := upd_at (y := y) (i := 1) e1
        dsimp [upd]
        refine wpOp_step rfl (fun K2 hK2 => ?_)
        go_simp
        exact hK2 _ _ (hK _ _ hS rfl (Below.refl _ _))
       ·
        have e0 : y 0 = _ := hd 0 rfl
        have e2 : y 2 = _ := hd 2 rfl
        obtain ⟨y, rfl⟩ := upd_at (y := y) (i := 0) e0
        obtain ⟨y, rfl⟩ := upd_at (y := y) (i := 2) e2
        dsimp [upd]
        refine wpOp_step rfl (fun K2 hK2 => ?_)
        go_simp
        exact hK2 _ _ (hK _ _ hS rfl (Below.refl _ _))
       ·
        have e3 : y 3 = _ := hd 3 rfl
        obtain ⟨y, rfl⟩ := upd_at (y := y) (i := 3) e3
        dsimp [upd]
        refine wpOp_step rfl (fun K2 hK2 => ?_)
        go_simp
        exact hK2 _ _ (hK _ _ hS rfl (Below.refl _ _))
       ·
        have e4 : y 4 = _ := hd 4 rfl
        obtain ⟨y, rfl⟩ := upd_at (y := y) (i := 4) e4
        dsimp [upd]
        have q0 := (hS.cell (p := ⟨q, 0, none⟩) hql).trans t0
        have q1 := (hS.cell (p := ⟨q, 1, none⟩) hql).trans t1
        have q2 := (hS.cell (p := ⟨q, 2, none⟩) hql).trans t2
        refine wpOp_step rfl (fun K2 hK2 => ?_)
        go_simp
        exact hK2 _ _ (hK _ _ hS rfl (Below.refl _ _))
       ·
        have e4 : y 4 = _ := hd 4 rfl
        obtain ⟨y, rfl⟩ := upd_at (y := y) (i := 4) e4
        dsimp [upd]
        refine wpOp_step rfl (fun K2 hK2 => ?_)
        go_simp
        exact hK2 _ _ (hK _ _ hS rfl (Below.refl _ _))
       ·
        have e4 : y 4 = _ := hd 4 rfl
        obtain ⟨y, rfl⟩ := upd_at (y := y) (i := 4) e4
        dsimp [upd]
        refine wpOp_step rfl (fun K2 hK2 => ?_)
        go_simp
        exact hK2 _ _ (hK _ _ hS rfl (Below.refl _ _))
       ·
        have e4 : y 4 = _ := hd 4 rfl
        have e6 : y 6 = _ := hd 6 rfl
        have e7 : y 7 = _ := hd 7 rfl
        obtain ⟨y, rfl⟩ := upd_at (y := y) (i := 4) e4
        obtain ⟨y, rfl⟩ := upd_at (y := y) (i := 6) e6
        obtain ⟨y, rfl⟩ := upd_at (y := y) (i := 7) e7
        dsimp [upd]
        refine wpOp_step rfl (fun K2 hK2 => ?_)
        go_simp
        exact hK2 _ _ (hK _ _ hS rfl (Below.refl _ _))
       ·
        have e4 : y 4 = _ := hd 4 rfl
        have e8 : y 8 = _ := hd 8 rfl
        obtain ⟨y, rfl⟩ := upd_at (y := y) (i := 4) e4
        obtain ⟨y, rfl⟩ := upd_at (y := y) (i := 8) e8
        dsimp [upd]
        have q3 := (hS.cell (p := ⟨lb, c * 3, none⟩) hlbl).trans l0
        have q4 := (hS.cell (p := ⟨lb, c * 3 + 1, none⟩) hlbl).trans l1
        have q5 := (hS.cell (p := ⟨lb, c * 3 + 2, none⟩) hlbl).trans l2
        refine wpOp_step rfl (fun K2 hK2 => ?_)
        go_simp
        exact hK2 _ _ (hK _ _ hS rfl (Below.refl _ _))
       ·
        have e4 : y 4 = _ := hd 4 rfl
        have e5 : y 5 = _ := hd 5 rfl
        have e9 : y 9 = _ := hd 9 rfl
        obtain ⟨y, rfl⟩ := upd_at (y := y) (i := 4) e4
        obtain ⟨y, rfl⟩ := upd_at (y := y) (i := 5) e5
        obtain ⟨y, rfl⟩ := upd_at (y := y) (i := 9) e9
        dsimp [upd]
        refine wpOp_step rfl (fun K2 hK2 => ?_)
        go_simp
        refine (HACC.out w10).mono ?_
        rintro e' w2 ⟨rfl, hb2⟩
        exact hK2 _ _ (hK _ _ (below_next hS hb2) rfl hb2)
      ·
       intro y w10 f hS hd
       have e4 : y 4 = _ := hd 4 (by decide)
       have e10 : y 10 = _ := hd 10 (by decide)
       clear hd
       obtain ⟨y, rfl⟩ := upd_at (y := y) (i := 4) e4
       obtain ⟨y, rfl⟩ := upd_at (y := y) (i := 10) e10
       dsimp [upd]
       refine wpAny_one (i := 11) (by kernel_rfl) ?_
       refine wpOp_step rfl (fun K2 hK2 => ?_)
       go_simp
       refine hK2 _ _ ?_
       clear hK2 K2 e4 e10
       refine wpAny_done (by kernel_rfl) ?_ _
       have HM2 := Lib.hid (HMM.out.next hS)
       clear hS t0 t1 t2 l0 l1 l2 HACC HMM
       obtain ⟨r0, r1⟩ := HM2.out.cells (k := c) (Nat.le_refl _) hie hlt
       have f1 := (HM2.out.co.ro s.size (Nat.le_refl _) hie).free c
       cases fb with
       | false =>
        have HM3 := Lib.hid (HM2.out.congr (fun x y _ _ _ => HFM.out rfl x y))
        go_wp2_with fail
        go_roundg (K - (c + 1))
        case measure => rw [HGC.out]; omega
        case rel => exact ⟨c + 1, hlt, rfl, by go_num, HM3.out⟩
       | true =>
        have HM3 := Lib.hid (HM2.out.put (f' := firstF a rs (bytes s) H s.size (c + 1)) (v := 0) (Nat.le_refl _) hie (by rw [HFN.out, if_pos ⟨rfl, rfl⟩]; rfl) (fun x y h1 h2 h3 h4 => by
         rw [HFN.out, if_neg (by omega)]
         unfold midF
         rw [if_neg (by omega)]))
        go_wp2_with fail
        go_roundg (K - (c + 1))
        case measure => rw [HGC.out]; omega
        case rel => exact ⟨c + 1, hlt, rfl, by go_num, HM3.out⟩
    ·
     obtain rfl : c = K := by omega
     have HM1 : Hid (SufM w1 cg (s.size + 1) c i g2 (fH rs (startH a rs (bytes s) i H)) wr) := HSM.out.congr (fun x y _ _ hy => by
      have h := first_end (a := a) (s := bytes s) (i := i) (fun v hv => HIN.out.low v (by omega)) x y (by rw [HKE.out]; exact hy)
      rw [HKE.out] at h
      exact h)
     have HP1 := Lib.hid (inP_start HG.out HFT.out hm HIN.out)
     clear HSM HIN HGC
     generalize startH a rs (bytes s) i H = H1 at *
     go_wp2_with fail
     go_loopg [9] (muI Bd (fH rs H1 i) c + 1) (fun gc s9 wx => ∃ (ch : Bool) (H2 : Nat × St → Int), s9 = .bool ch ∧ gc = (if ch = true then muI Bd (fH rs H2 i) c + 1 else 0) ∧ SufM w1 cg (s.size + 1) c i g2 (fH rs H2) wx ∧ InP a rs (bytes s) i H2 ∧ (ch = false → ∀ y, y < c → ∀ r, r < rs.length → PrC rs (bytes s) H2 (i, (theG rs).1.getD y St.start) r))
     case atStart => exact ⟨true, H1, rfl, by rw [if_pos rfl], HM1.out, HP1.out, fun h => by cases h⟩
     case round =>
      obtain ⟨ch, H2, rfl, hgc, hsm, hip, hpr⟩ := hrel
      clear HM1 HP1
      have HSM := Lib.hid hsm
      have HIP := Lib.hid hip
      have HPR := Lib.hid hpr
      have HGC := Lib.hid hgc
      clear hsm hip hpr hgc
      cases ch with
      | false =>
       have HIN : Hid (InvH a rs (bytes s) i H2) := inP_done HIP.out (fun st hst r hr => by
        obtain ⟨y, hy, rfl⟩ := List.getElem_of_mem hst
        have h := HPR.out rfl y (by rw [← HKE.out]; exact hy) r hr
        rw [stk_at hy] at h
        exact h)
       clear HPR HGC HIP
       go_wp2_with fail
       go_roundg i
       case measure => rw [HGK.out]; omega
       case rel => exact ⟨i, g2, H2, by omega, rfl, rfl, HSM.out, HIN.out⟩
      | true =>
       rw [if_pos rfl] at HGC
       clear HPR
       obtain ⟨K, rfl⟩ : ∃ K, K = c := ⟨_, rfl⟩
       go_wp2_with fail
       go_loopg [9, 10] K (fun gd s9 s10 wx => ∃ (c : Nat) (ch : Bool) (H3 : Nat × St → Int), c ≤ K ∧ gd = K - c ∧ s10 = .int .i64 c ∧ s9 = .bool ch ∧ SufM w1 cg (s.size + 1) K i g2 (fH rs H3) wx ∧ InP a rs (bytes s) i H3 ∧ muI Bd (fH rs H3 i) K ≤ muI Bd (fH rs H2 i) K ∧ (ch = true → muI Bd (fH rs H3 i) K < muI Bd (fH rs H2 i) K) ∧ (ch = false → ∀ y, y < c → ∀ r, r < rs.length → PrC rs (bytes s) H3 (i, (theG rs).1.getD y St.start) r))
       case atStart => exact ⟨0, false, H2, Nat.zero_le _, rfl, rfl, rfl, HSM.out, HIP.out, Nat.le_refl _, fun h => (by cases h), fun _ y hy => absurd hy (Nat.not_lt_zero _)⟩
       case round =>
        obtain ⟨c, ch, H3, hc, hgd, rfl, rfl, hsm, hip, hmu, hmt, hpr⟩ := hrel
        clear HSM HIP
        have HSM := Lib.hid hsm
        have HIP := Lib.hid hip
        have HMU := Lib.hid hmu
        have HMT := Lib.hid hmt
        have HPR := Lib.hid hpr
        have HGD := Lib.hid hgd
        clear hsm hip hmu hmt hpr hgd
        have hc0 : (0 : Int) ≤ (c : Int) := by omega
        by_cases hck : c < K
        ·
         have hcn : (c : Int) < (K : Int) := by omega
         go_wp2_with fail
         go_loopg [9, 11] rs.length (fun ge s9 s11 wx => ∃ (r : Nat) (ch : Bool) (H4 : Nat × St → Int), r ≤ rs.length ∧ ge = rs.length - r ∧ s11 = .int .i64 r ∧ s9 = .bool ch ∧ SufM w1 cg (s.size + 1) K i g2 (fH rs H4) wx ∧ InP a rs (bytes s) i H4 ∧ muI Bd (fH rs H4 i) K ≤ muI Bd (fH rs H2 i) K ∧ (ch = true → muI Bd (fH rs H4 i) K < muI Bd (fH rs H2 i) K) ∧ (ch = false → (∀ y, y < c → ∀ r, r < rs.length → PrC rs (bytes s) H4 (i, (theG rs).1.getD y St.start) r) ∧ ∀ r', r' < r → PrC rs (bytes s) H4 (i, (theG rs).1.getD c St.start) r'))
         case atStart => exact ⟨0, ch, H3, Nat.zero_le _, rfl, rfl, rfl, HSM.out, HIP.out, HMU.out, HMT.out, fun h => ⟨HPR.out h, fun _ h => absurd h (Nat.not_lt_zero _)⟩⟩
         case round =>
          obtain ⟨r, ch, H4, hr, hge, rfl, rfl, hsm, hip, hmu, hmt, hpr⟩ := hrel
          clear HSM HIP HMU HMT HPR
          have HSM := Lib.hid hsm
          have HIP := Lib.hid hip
          have HMU := Lib.hid hmu
          have HMT := Lib.hid hmt
          have HPR := Lib.hid hpr
          have HGE := Lib.hid hge
          clear hsm hip hmu hmt hpr hge
          have hr0 : (0 : Int) ≤ (r : Int) := by omega
          have HTW : Hid (Blk wr q 30 #[.int .i64 m, .int .u8 a, .slice A rs.length k]) := HT1.out.keep HSM.out.bb HT1.out.lt
          have t0 := HTW.out.cell 0
          have t1 := HTW.out.cell 1
          have t2 := HTW.out.cell 2
          simp only [List.getElem?_toArray, List.getElem?_cons_zero, List.getElem?_cons_succ] at t0 t1 t2
          by_cases hrn : r < rs.length
          ·
           have hrn2 : (r : Int) < (rs.length : Int) := by omega
           have HSL : Hid (StAt wr wr.heap.size LA (theG rs).1) := HST.out.up HSM.out.bb
           obtain ⟨lb, hlb, hlbl, hlc⟩ := HSL.out (by rw [HKE.out]; omega)
           obtain ⟨l0, l1, l2⟩ := hlc c (by rw [HKE.out]; exact hck)
           have hsk : (theG rs).1.getD c St.start = (theG rs).1[c]'(by rw [HKE.out]; exact hck) := stk_at (by rw [HKE.out]; exact hck)
           rw [← hsk] at l0 l1 l2
           have HMS : Hid ((theG rs).1.getD c St.start ∈ (theG rs).1) := by unfold Hid; rw [hsk]; exact List.getElem_mem _
           have HRW : Hid (∀ W, Below wr.heap.size wr W → Rules W W.heap.size A rs) := fun W hb => HR1.out.up (below_next HSM.out.bb hb)
           have HLW : Hid (∀ W, Below wr.heap.size wr W → StAt W W.heap.size LA (theG rs).1) := fun W hb => HST.out.up (below_next HSM.out.bb hb)
           have HBH : Hid (∀ v : Nat × St, v.1 ≤ s.size → v.2 ∈ (theG rs).1 → -1 ≤ H4 v ∧ H4 v ≤ 2 ^ 50) := fun v h1 h2 => by
            have h := HBD.out H4 HIP.out.tgt v h1 h2
            omega
           have HFC : Hid (fH rs H4 i c = H4 (i, (theG rs).1.getD c St.start)) := rfl
           have HSE : Hid (∀ y, y < K → (theG rs).1.getD y St.start = (theG rs).1.getD c St.start → y = c) := fun y hy he => stk_ne HG.out HFT.out hm.1 (by rw [HKE.out]; exact hy) (by rw [HKE.out]; exact hck) he
           have HPN : Hid (PrC rs (bytes s) H4 (i, (theG rs).1.getD c St.start) r → ch = false → (∀ y, y < c → ∀ r, r < rs.length → PrC rs (bytes s) H4 (i, (theG rs).1.getD y St.start) r) ∧ ∀ r', r' < r + 1 → PrC rs (bytes s) H4 (i, (theG rs).1.getD c St.start) r') := fun hp h => ⟨(HPR.out h).1, fun r' hr' => by
            by_cases e : r' = r
            ·
             subst e; exact hp
            ·
             exact (HPR.out h).2 r' (by omega)⟩
           have HAF : Hid (∀ W, Below wr.heap.size wr W → Calls Try.prog 76 #[.agg #[.int .i64 m, .int .u8 a, .slice A rs.length k], .agg #[.string s, .int .i64 i, .int .i64 ((theG rs).1.getD c St.start).mode, .int .i64 ((theG rs).1.getD c St.start).last, .int .u8 ((theG rs).1.getD c St.start).need, .slice LA K lk], .int .i64 r, .slice (some ⟨cg, 0, none⟩) (s.size + 1) (s.size + 1)] W (AftEnd (aftV rs (bytes s) H4 (i, (theG rs).1.getD c St.start) r) W)) := fun W hb =>
            after6_any m a A rs.length k rs s LA K lk cg i i r g2 H4 _ _ _ W rfl (HRW.out W hb) HG.out hmax hm (by omega) HKE.out (HLW.out W hb) HMS.out (HSM.out.next hb).co (Nat.le_refl _) hi1 hrn HBH.out
           clear hlc hsk HSL HPR
           subst hlb
           obtain ⟨r0, r1⟩ := HSM.out.cells (i := i) (k := c) (Nat.le_refl _) hie hck
           rw [HFC.out] at r1
           have f1 := (HSM.out.co.ro i (Nat.le_refl _) hie).free c
           have hgl := (HSM.out.co.ro i (Nat.le_refl _) hie).lt
           have hcgl := HSM.out.co.co.lt
           have hql := HTW.out.lt
           have HBV : Hid (-1 ≤ H4 (i, (theG rs).1.getD c St.start)) := (HBH.out _ hi1 HMS.out).1
           generalize hste : (theG rs).1.getD c St.start = st at *
           have HSTE := Lib.hid hste
           clear hste
           obtain ⟨av, hav⟩ : ∃ av, aftV rs (bytes s) H4 (i, st) r = av := ⟨_, rfl⟩
           rw [hav] at HAF
           have HAV := Lib.hid hav
           obtain ⟨hv, hhv⟩ : ∃ hv, H4 (i, st) = hv := ⟨_, rfl⟩
           rw [hhv] at r1 HBV
           have HHV := Lib.hid hhv
           clear hav hhv
           obtain ⟨gi, hgi⟩ : ∃ gi, g2 i = gi := ⟨_, rfl⟩
           rw [hgi] at r0 r1 f1 hgl
           have HGI := Lib.hid hgi
           clear hgi
           obtain ⟨sa, sb, sc⟩ := st
           dsimp only at l0 l1 l2 HAF
           go_upto_region 22 with fail
           refine wp_region_head 12 0 (by kernel_rfl) (fun y => (.agg #[.int .i64 m, .int .u8 a, .slice A rs.length k]) :: (.string s) :: (.pointer (some ⟨q, 0, none⟩)) :: undef :: (.slice none 0 0) :: (.slice (some ⟨lb, 0, none⟩) K lk) :: (.slice (some ⟨cg, 0, none⟩) (s.size + 1) (s.size + 1)) :: (.int .i64 ↑i) :: (.int .i64 ↑K) :: (.bool ch) :: (.int .i64 ↑c) :: (.int .i64 ↑r) :: u12 :: (.agg #[.int .i64 m, .int .u8 a, .slice A rs.length k]) :: (.slice (some ⟨lb, 0, none⟩) K lk) :: (.string s) :: (.int .i64 ↑s.size) :: (.int .i64 (↑s.size + 1)) :: (.slice (some ⟨cg, 0, none⟩) (s.size + 1) (s.size + 1)) :: (.string s) :: (.int .i64 ↑s.size) :: (.int .i64 ↑i) :: (.bool true) :: u23 :: u24 :: (.slice (some ⟨cg, 0, none⟩) (s.size + 1) (s.size + 1)) :: (.int .i64 ↑i) :: (.slice (some ⟨lb, 0, none⟩) K lk) :: (.int .i64 ↑K) :: (.slice (some ⟨nb, 0, none⟩) K K) :: (.pointer (some ⟨cg, i, none⟩)) :: (.int .i64 ↑K) :: (.slice (some ⟨lb, 0, none⟩) K lk) :: (.int .i64 ↑K) :: (.bool false) :: u35 :: u36 :: u37 :: u38 :: u39 :: u40 :: u41 :: u42 :: u43 :: u44 :: u45 :: u46 :: u47 :: u48 :: u49 :: u50 :: u51 :: u52 :: u53 :: u54 :: u55 :: u56 :: u57 :: u58 :: u59 :: u60 :: (.bool true) :: (.int .i64 ↑c) :: (.slice (some ⟨lb, 0, none⟩) K lk) :: (.int .i64 ↑K) :: (.bool true) :: u66 :: u67 :: (.int .i64 ↑r) :: (.pointer (some ⟨q, 2, none⟩)) :: (.slice A rs.length k) :: (.int .i64 ↑rs.length) :: (.bool true) :: u73 :: u74 :: y 0 :: y 1 :: y 2 :: y 3 :: y 4 :: y 5 :: y 6 :: y 7 :: y 8 :: y 9 :: y 10 :: y 11 :: u87 :: u88 :: u89 :: u90 :: u91 :: u92 :: u93 :: u94 :: u95 :: u96 :: u97 :: u98 :: u99 :: u100 :: u101 :: u102 :: u103 :: u104 :: u105 :: u106 :: u107 :: u108 :: u109 :: u110 :: u111 :: u112 :: u113 :: u114 :: undef :: [])
            (fun _ w' => Below wr.heap.size wr w') (phiP [pv (.agg #[.int .i64 m, .int .u8 a, .slice A rs.length k]), pv (.string s), pv (.int .i64 i), pv (.slice (some ⟨lb, 0, none⟩) K lk), pv (.int .i64 c), pv (.pointer (some ⟨lb, c * 3, none⟩)), pv (.agg #[.int .i64 sa, .int .i64 sb, .int .u8 sc]), pv (.slice (some ⟨lb, 0, none⟩) K lk), pv (.agg #[.string s, .int .i64 i, .int .i64 sa, .int .i64 sb, .int .u8 sc, .slice (some ⟨lb, 0, none⟩) K lk]), pv (.int .i64 r), pv (.slice (some ⟨cg, 0, none⟩) (s.size + 1) (s.size + 1)), pv (.int .i64 av)]) (fun i => match i with | 0 => u75 | 1 => u76 | 2 => u77 | 3 => u78 | 4 => u79 | 5 => u80 | 6 => u81 | 7 => u82 | 8 => u83 | 9 => u84 | 10 => u85 | 11 => u86 | _ => undef)
            (by kernel_rfl) (by kernel_rfl) (by kernel_rfl) (by kernel_rfl) (fun i v wa wb h hb => phiP_keep (stay_cons (pv_st) (stay_cons (pv_st) (stay_cons (pv_st) (stay_cons (pv_st) (stay_cons (pv_st) (stay_cons (pv_st) (stay_cons (pv_st) (stay_cons (pv_st) (stay_cons (pv_st) (stay_cons (pv_st) (stay_cons (pv_st) (stay_cons (pv_st) stay_nil)))))))))))) h hb) (Below.refl _ _).drew [0, 1, 2, 3, 4, 5, 6, 7, 8, 9, 10, 11] (by kernel_rfl) ?_ ?_
           ·
            refine allCons ?_ (allCons ?_ (allCons ?_ (allCons ?_ (allCons ?_ (allCons ?_ (allCons ?_ (allCons ?_ (allCons ?_ (allCons ?_ (allCons ?_ (allCons ?_ (allNil))))))))))))
            all_goals intro y w10 K hS hd hK
            ·
             have q0 := (hS.cell (p := ⟨q, 0, none⟩) hql).trans t0
             have q1 := (hS.cell (p := ⟨q, 1, none⟩) hql).trans t1
             have q2 := (hS.cell (p := ⟨q, 2, none⟩) hql).trans t2
             refine wpOp_step rfl (fun K2 hK2 => ?_)
             go_simp
             exact hK2 _ _ (hK _ _ hS rfl (Below.refl _ _))
            ·
             refine wpOp_step rfl (fun K2 hK2 => ?_)
             go_simp
             exact hK2 _ _ (hK _ _ hS rfl (Below.refl _ _))
            ·
             refine wpOp_step rfl (fun K2 hK2 => ?_)
             go_simp
             exact hK2 _ _ (hK _ _ hS rfl (Below.refl _ _))
            ·
             refine wpOp_step rfl (fun K2 hK2 => ?_)
             go_simp
             exact hK2 _ _ (hK _ _ hS rfl (Below.refl _ _))
            ·
             refine wpOp_step rfl (fun K2 hK2 => ?_)
             go_simp
             exact hK2 _ _ (hK _ _ hS rfl (Below.refl _ _))
            ·
             have e3 : y 3 = _ := hd 3 rfl
             have e4 : y 4 = _ := hd 4 rfl
             obtain ⟨y, rfl⟩ := upd_at (y := y) (i := 3) e3
             obtain ⟨y, rfl⟩ := upd_at (y := y) (i := 4) e4
             dsimp [upd]
             refine wpOp_step rfl (fun K2 hK2 => ?_)
             go_simp
             exact hK2 _ _ (hK _ _ hS rfl (Below.refl _ _))
            ·
             have e5 : y 5 = _ := hd 5 rfl
             obtain ⟨y, rfl⟩ := upd_at (y := y) (i := 5) e5
             dsimp [upd]
             have q3 := (hS.cell (p := ⟨lb, c * 3, none⟩) hlbl).trans l0
             have q4 := (hS.cell (p := ⟨lb, c * 3 + 1, none⟩) hlbl).trans l1
             have q5 := (hS.cell (p := ⟨lb, c * 3 + 2, none⟩) hlbl).trans l2
             refine wpOp_step rfl (fun K2 hK2 => ?_)
             go_simp
             exact hK2 _ _ (hK _ _ hS rfl (Below.refl _ _))
            ·
             refine wpOp_step rfl (fun K2 hK2 => ?_)
             go_simp
             exact hK2 _ _ (hK _ _ hS rfl (Below.refl _ _))
            ·
             have e1 : y 1 = _ := hd 1 rfl
             have e2 : y 2 = _ := hd 2 rfl
             have e6 : y 6 = _ := hd 6 rfl
             have e7 : y 7 = _ := hd 7 rfl
             obtain ⟨y, rfl⟩ := upd_at (y := y) (i := 1) e1
             obtain ⟨y, rfl⟩ := upd_at (y := y) (i := 2) e2
             obtain ⟨y, rfl⟩ := upd_at (y := y) (i := 6) e6
             obtain ⟨y, rfl⟩ := upd_at (y := y) (i := 7) e7
             dsimp [upd]
             refine wpOp_step rfl (fun K2 hK2 => ?_)
             go_simp
             exact hK2 _ _ (hK _ _ hS rfl (Below.refl _ _))
            ·
             refine wpOp_step rfl (fun K2 hK2 => ?_)
             go_simp
             exact hK2 _ _ (hK _ _ hS rfl (Below.refl _ _))
            ·
             refine wpOp_step rfl (fun K2 hK2 => ?_)
             go_simp
             exact hK2 _ _ (hK _ _ hS rfl (Below.refl _ _))
            ·
             have e0 : y 0 = _ := hd 0 rfl
             have e8 : y 8 = _ := hd 8 rfl
             have e9 : y 9 = _ := hd 9 rfl
             have e10 : y 10 = _ := hd 10 rfl
             obtain ⟨y, rfl⟩ := upd_at (y := y) (i := 0) e0
             obtain ⟨y, rfl⟩ := upd_at (y := y) (i := 8) e8
             obtain ⟨y, rfl⟩ := upd_at (y := y) (i := 9) e9
             obtain ⟨y, rfl⟩ := upd_at (y := y) (i := 10) e10
             dsimp [upd]
             refine wpOp_step rfl (fun K2 hK2 => ?_)
             go_simp
             refine (HAF.out w10 hS).mono ?_
             rintro e' w2 ⟨rfl, hb2⟩
             exact hK2 _ _ (hK _ _ (below_next hS hb2) rfl hb2)
           ·
            intro y w10 f hS hd
            have e11 : y 11 = _ := hd 11 (by decide)
            clear hd
            obtain ⟨y, rfl⟩ := upd_at (y := y) (i := 11) e11
            dsimp [upd]
            refine wpAny_one (i := 12) (by kernel_rfl) ?_
            refine wpOp_step rfl (fun K2 hK2 => ?_)
            go_simp
            refine hK2 _ _ ?_
            clear hK2 K2 e11
            refine wpAny_done (by kernel_rfl) ?_ _
            have HM5 := Lib.hid (HSM.out.next hS)
            have r0' := (hS.cell (p := ⟨cg, i, none⟩) hcgl).trans r0
            have r1' := (hS.cell (p := ⟨gi, c, none⟩) hgl).trans r1
            have hcg5 : cg < w10.heap.size := by have := hS.size; omega
            have hg5 : gi < w10.heap.size := by have := hS.size; omega
            obtain ⟨yo, rfl⟩ : ∃ yo : Nat → Value, yo = y := ⟨_, rfl⟩
            clear hS r0 r1 f1 t0 t1 t2 l0 l1 l2 hlbl hql HSM HAF HRW HLW HTW hcgl hgl
            obtain ⟨W5, rfl⟩ : ∃ W5 : World, W5 = w10 := ⟨_, rfl⟩
            have r0 := r0'
            have r1 := r1'
            clear r0' r1'
            go_upto_region 23 with fail
            rcases Int.lt_or_le av 0 with hn | hp
            ·
             have hnle : ¬ 0 ≤ av := by omega
             have HPP := Lib.hid (HPN.out (fun h => by rw [HAV.out] at h; omega))
             clear hn
             refine wp_region_head 20 0 (by kernel_rfl) (fun y => (.agg #[.int .i64 m, .int .u8 a, .slice A rs.length k]) :: (.string s) :: (.pointer (some ⟨q, 0, none⟩)) :: undef :: (.slice none 0 0) :: (.slice (some ⟨lb, 0, none⟩) K lk) :: (.slice (some ⟨cg, 0, none⟩) (s.size + 1) (s.size + 1)) :: (.int .i64 ↑i) :: (.int .i64 ↑K) :: (.bool ch) :: (.int .i64 ↑c) :: (.int .i64 ↑r) :: (.int .i64 av) :: (.agg #[.int .i64 m, .int .u8 a, .slice A rs.length k]) :: (.slice (some ⟨lb, 0, none⟩) K lk) :: (.string s) :: (.int .i64 ↑s.size) :: (.int .i64 (↑s.size + 1)) :: (.slice (some ⟨cg, 0, none⟩) (s.size + 1) (s.size + 1)) :: (.string s) :: (.int .i64 ↑s.size) :: (.int .i64 ↑i) :: (.bool true) :: u23 :: u24 :: (.slice (some ⟨cg, 0, none⟩) (s.size + 1) (s.size + 1)) :: (.int .i64 ↑i) :: (.slice (some ⟨lb, 0, none⟩) K lk) :: (.int .i64 ↑K) :: (.slice (some ⟨nb, 0, none⟩) K K) :: (.pointer (some ⟨cg, i, none⟩)) :: (.int .i64 ↑K) :: (.slice (some ⟨lb, 0, none⟩) K lk) :: (.int .i64 ↑K) :: (.bool false) :: u35 :: u36 :: u37 :: u38 :: u39 :: u40 :: u41 :: u42 :: u43 :: u44 :: u45 :: u46 :: u47 :: u48 :: u49 :: u50 :: u51 :: u52 :: u53 :: u54 :: u55 :: u56 :: u57 :: u58 :: u59 :: u60 :: (.bool true) :: (.int .i64 ↑c) :: (.slice (some ⟨lb, 0, none⟩) K lk) :: (.int .i64 ↑K) :: (.bool true) :: u66 :: u67 :: (.int .i64 ↑r) :: (.pointer (some ⟨q, 2, none⟩)) :: (.slice A rs.length k) :: (.int .i64 ↑rs.length) :: (.bool true) :: u73 :: u74 :: (yo 0) :: (yo 1) :: (yo 2) :: (yo 3) :: (yo 4) :: (yo 5) :: (yo 6) :: (yo 7) :: (yo 8) :: (yo 9) :: (yo 10) :: (.int .i64 av) :: y 0 :: y 1 :: y 2 :: y 3 :: y 4 :: y 5 :: y 6 :: y 7 :: y 8 :: y 9 :: y 10 :: y 11 :: y 12 :: y 13 :: y 14 :: y 15 :: y 16 :: y 17 :: y 18 :: y 19 :: u107 :: u108 :: u109 :: u110 :: u111 :: u112 :: u113 :: u114 :: undef :: [])
              (fun _ w' => Below W5.heap.size W5 w') (phiP [pv (.int .i64 av), pv (.bool false), pv (.bool false), pv (undef), pv (undef), pv (undef), pv (undef), pv (undef), pv (undef), pv (undef), pv (undef), pv (undef), pv (undef), pv (undef), pv (undef), pv (undef), pv (undef), pv (undef), pv (undef), pv (undef)]) (fun i => match i with | 0 => u87 | 1 => u88 | 2 => u89 | 3 => u90 | 4 => u91 | 5 => u92 | 6 => u93 | 7 => u94 | 8 => u95 | 9 => u96 | 10 => u97 | 11 => u98 | 12 => u99 | 13 => u100 | 14 => u101 | 15 => u102 | 16 => u103 | 17 => u104 | 18 => u105 | 19 => u106 | _ => undef)
              (by kernel_rfl) (by kernel_rfl) (by kernel_rfl) (by kernel_rfl) (fun i v wa wb h hb => phiP_keep (stay_cons (pv_st) (stay_cons (pv_st) (stay_cons (pv_st) (stay_cons (pv_st) (stay_cons (pv_st) (stay_cons (pv_st) (stay_cons (pv_st) (stay_cons (pv_st) (stay_cons (pv_st) (stay_cons (pv_st) (stay_cons (pv_st) (stay_cons (pv_st) (stay_cons (pv_st) (stay_cons (pv_st) (stay_cons (pv_st) (stay_cons (pv_st) (stay_cons (pv_st) (stay_cons (pv_st) (stay_cons (pv_st) (stay_cons (pv_st) stay_nil)))))))))))))))))))) h hb) (Below.refl _ _).drew [0, 1, 2, 3, 4, 5, 6, 7, 8, 9, 10, 11, 12, 13, 14, 15, 16, 17, 18, 19] (by kernel_rfl) ?_ ?_
             ·
              refine allCons ?_ (allCons ?_ (allCons ?_ (allCons ?_ (allCons ?_ (allCons ?_ (allCons ?_ (allCons ?_ (allCons ?_ (allCons ?_ (allCons ?_ (allCons ?_ (allCons ?_ (allCons ?_ (allCons ?_ (allCons ?_ (allCons ?_ (allCons ?_ (allCons ?_ (allCons ?_ (allNil))))))))))))))))))))
              all_goals intro y w10 K hS hd hK
              ·
               refine wpOp_step rfl (fun K2 hK2 => ?_)
               go_simp
               exact hK2 _ _ (hK _ _ hS rfl (Below.refl _ _))
              ·
               have e0 : y 0 = _ := hd 0 rfl
               obtain ⟨y, rfl⟩ := upd_at (y := y) (i := 0) e0
               dsimp [upd]
               refine wpOp_step rfl (fun K2 hK2 => ?_)
               go_simp
               exact hK2 _ _ (hK _ _ hS rfl (Below.refl _ _))
              ·
               have e1 : y 1 = _ := hd 1 rfl
               obtain ⟨y, rfl⟩ := upd_at (y := y) (i := 1) e1
               dsimp [upd]
               refine wpOp_step rfl (fun K2 hK2 => ?_)
               go_simp
               exact hK2 _ _ (hK _ _ hS rfl (Below.refl _ _))
              ·
               have e2 : y 2 = _ := hd 2 rfl
               obtain ⟨y, rfl⟩ := upd_at (y := y) (i := 2) e2
               dsimp [upd]
               refine wpOp_step rfl (fun K2 hK2 => ?_)
               go_simp
               exact hK2 _ _ (hK _ _ hS rfl (Below.refl _ _))
              ·
               have e2 : y 2 = _ := hd 2 rfl
               obtain ⟨y, rfl⟩ := upd_at (y := y) (i := 2) e2
               dsimp [upd]
               refine wpOp_step rfl (fun K2 hK2 => ?_)
               go_simp
               exact hK2 _ _ (hK _ _ hS rfl (Below.refl _ _))
              ·
               have e2 : y 2 = _ := hd 2 rfl
               obtain ⟨y, rfl⟩ := upd_at (y := y) (i := 2) e2
               dsimp [upd]
               refine wpOp_step rfl (fun K2 hK2 => ?_)
               go_simp
               exact hK2 _ _ (hK _ _ hS rfl (Below.refl _ _))
              ·
               have e2 : y 2 = _ := hd 2 rfl
               obtain ⟨y, rfl⟩ := upd_at (y := y) (i := 2) e2
               dsimp [upd]
               refine wpOp_step rfl (fun K2 hK2 => ?_)
               go_simp
               exact hK2 _ _ (hK _ _ hS rfl (Below.refl _ _))
              ·
               have e2 : y 2 = _ := hd 2 rfl
               obtain ⟨y, rfl⟩ := upd_at (y := y) (i := 2) e2
               dsimp [upd]
               refine wpOp_step rfl (fun K2 hK2 => ?_)
               go_simp
               exact hK2 _ _ (hK _ _ hS rfl (Below.refl _ _))
              ·
               have e2 : y 2 = _ := hd 2 rfl
               obtain ⟨y, rfl⟩ := upd_at (y := y) (i := 2) e2
               dsimp [upd]
               refine wpOp_step rfl (fun K2 hK2 => ?_)
               go_simp
               exact hK2 _ _ (hK _ _ hS rfl (Below.refl _ _))
              ·
               have e2 : y 2 = _ := hd 2 rfl
               obtain ⟨y, rfl⟩ := upd_at (y := y) (i := 2) e2
               dsimp [upd]
               refine wpOp_step rfl (fun K2 hK2 => ?_)
               go_simp
               exact hK2 _ _ (hK _ _ hS rfl (Below.refl _ _))
              ·
               have e2 : y 2 = _ := hd 2 rfl
               obtain ⟨y, rfl⟩ := upd_at (y := y) (i := 2) e2
               dsimp [upd]
               refine wpOp_step rfl (fun K2 hK2 => ?_)
               go_simp
               exact hK2 _ _ (hK _ _ hS rfl (Below.refl _ _))
              ·
               have e2 : y 2 = _ := hd 2 rfl
               obtain ⟨y, rfl⟩ := upd_at (y := y) (i := 2) e2
               dsimp [upd]
               refine wpOp_step rfl (fun K2 hK2 => ?_)
               go_simp
               exact hK2 _ _ (hK _ _ hS rfl (Below.refl _ _))
              ·
               have e2 : y 2 = _ := hd 2 rfl
               obtain ⟨y, rfl⟩ := upd_at (y := y) (i := 2) e2
               dsimp [upd]
               refine wpOp_step rfl (fun K2 hK2 => ?_)
               go_simp
               exact hK2 _ _ (hK _ _ hS rfl (Below.refl _ _))
              ·
               have e2 : y 2 = _ := hd 2 rfl
               obtain ⟨y, rfl⟩ := upd_at (y := y) (i := 2) e2
               dsimp [upd]
               refine wpOp_step rfl (fun K2 hK2 => ?_)
               go_simp
               exact hK2 _ _ (hK _ _ hS rfl (Below.refl _ _))
              ·
               have e2 : y 2 = _ := hd 2 rfl
               obtain ⟨y, rfl⟩ := upd_at (y := y) (i := 2) e2
               dsimp [upd]
               refine wpOp_step rfl (fun K2 hK2 => ?_)
               go_simp
               exact hK2 _ _ (hK _ _ hS rfl (Below.refl _ _))
              ·
               have e2 : y 2 = _ := hd 2 rfl
               obtain ⟨y, rfl⟩ := upd_at (y := y) (i := 2) e2
               dsimp [upd]
               refine wpOp_step rfl (fun K2 hK2 => ?_)
               go_simp
               exact hK2 _ _ (hK _ _ hS rfl (Below.refl _ _))
              ·
               have e2 : y 2 = _ := hd 2 rfl
               obtain ⟨y, rfl⟩ := upd_at (y := y) (i := 2) e2
               dsimp [upd]
               refine wpOp_step rfl (fun K2 hK2 => ?_)
               go_simp
               exact hK2 _ _ (hK _ _ hS rfl (Below.refl _ _))
              ·
               have e2 : y 2 = _ := hd 2 rfl
               obtain ⟨y, rfl⟩ := upd_at (y := y) (i := 2) e2
               dsimp [upd]
               refine wpOp_step rfl (fun K2 hK2 => ?_)
               go_simp
               exact hK2 _ _ (hK _ _ hS rfl (Below.refl _ _))
              ·
               have e2 : y 2 = _ := hd 2 rfl
               obtain ⟨y, rfl⟩ := upd_at (y := y) (i := 2) e2
               dsimp [upd]
               refine wpOp_step rfl (fun K2 hK2 => ?_)
               go_simp
               exact hK2 _ _ (hK _ _ hS rfl (Below.refl _ _))
              ·
               have e2 : y 2 = _ := hd 2 rfl
               obtain ⟨y, rfl⟩ := upd_at (y := y) (i := 2) e2
               dsimp [upd]
               refine wpOp_step rfl (fun K2 hK2 => ?_)
               go_simp
               exact hK2 _ _ (hK _ _ hS rfl (Below.refl _ _))
             ·
              intro y w10 f hS hd
              have e2 : y 2 = _ := hd 2 (by decide)
              clear hd
              obtain ⟨y, rfl⟩ := upd_at (y := y) (i := 2) e2
              dsimp [upd]
              refine wpAny_one (i := 20) (by kernel_rfl) ?_
              refine wpOp_step rfl (fun K2 hK2 => ?_)
              go_simp
              refine hK2 _ _ ?_
              clear hK2 K2 e2
              refine wpAny_done (by kernel_rfl) ?_ _
              have HM6 := Lib.hid (HM5.out.next hS)
              clear hS HM5
              go_wp2_with fail
              go_roundg (rs.length - (r + 1))
              case measure => rw [HGE.out]; omega
              case rel => exact ⟨r + 1, ch, H4, hrn, rfl, by go_num, rfl, HM6.out, HIP.out, HMU.out, HMT.out, HPP.out⟩
            ·
             obtain ⟨ml, hml⟩ : ∃ ml, leastI hv av = ml := ⟨_, rfl⟩
             have HLE : Hid (∀ W, Calls Try.prog 123 #[.int .i64 hv, .int .i64 av] W fun e w' => e = .returned (.int .i64 ml) ∧ Below W.heap.size W w') := fun W => by
              have h := least6_any hv av W
              rw [hml] at h
              exact h
             have HIF := Lib.hid (lst_ne HBV.out hp)
             rw [hml] at HIF
             clear hml
             obtain ⟨bb, hbb⟩ : ∃ bb, (ml != hv) = bb := ⟨_, rfl⟩
             have HBB := Lib.hid hbb
             clear hbb
             refine wp_region_head 20 0 (by kernel_rfl) (fun y => (.agg #[.int .i64 m, .int .u8 a, .slice A rs.length k]) :: (.string s) :: (.pointer (some ⟨q, 0, none⟩)) :: undef :: (.slice none 0 0) :: (.slice (some ⟨lb, 0, none⟩) K lk) :: (.slice (some ⟨cg, 0, none⟩) (s.size + 1) (s.size + 1)) :: (.int .i64 ↑i) :: (.int .i64 ↑K) :: (.bool ch) :: (.int .i64 ↑c) :: (.int .i64 ↑r) :: (.int .i64 av) :: (.agg #[.int .i64 m, .int .u8 a, .slice A rs.length k]) :: (.slice (some ⟨lb, 0, none⟩) K lk) :: (.string s) :: (.int .i64 ↑s.size) :: (.int .i64 (↑s.size + 1)) :: (.slice (some ⟨cg, 0, none⟩) (s.size + 1) (s.size + 1)) :: (.string s) :: (.int .i64 ↑s.size) :: (.int .i64 ↑i) :: (.bool true) :: u23 :: u24 :: (.slice (some ⟨cg, 0, none⟩) (s.size + 1) (s.size + 1)) :: (.int .i64 ↑i) :: (.slice (some ⟨lb, 0, none⟩) K lk) :: (.int .i64 ↑K) :: (.slice (some ⟨nb, 0, none⟩) K K) :: (.pointer (some ⟨cg, i, none⟩)) :: (.int .i64 ↑K) :: (.slice (some ⟨lb, 0, none⟩) K lk) :: (.int .i64 ↑K) :: (.bool false) :: u35 :: u36 :: u37 :: u38 :: u39 :: u40 :: u41 :: u42 :: u43 :: u44 :: u45 :: u46 :: u47 :: u48 :: u49 :: u50 :: u51 :: u52 :: u53 :: u54 :: u55 :: u56 :: u57 :: u58 :: u59 :: u60 :: (.bool true) :: (.int .i64 ↑c) :: (.slice (some ⟨lb, 0, none⟩) K lk) :: (.int .i64 ↑K) :: (.bool true) :: u66 :: u67 :: (.int .i64 ↑r) :: (.pointer (some ⟨q, 2, none⟩)) :: (.slice A rs.length k) :: (.int .i64 ↑rs.length) :: (.bool true) :: u73 :: u74 :: (yo 0) :: (yo 1) :: (yo 2) :: (yo 3) :: (yo 4) :: (yo 5) :: (yo 6) :: (yo 7) :: (yo 8) :: (yo 9) :: (yo 10) :: (.int .i64 av) :: y 0 :: y 1 :: y 2 :: y 3 :: y 4 :: y 5 :: y 6 :: y 7 :: y 8 :: y 9 :: y 10 :: y 11 :: y 12 :: y 13 :: y 14 :: y 15 :: y 16 :: y 17 :: y 18 :: y 19 :: u107 :: u108 :: u109 :: u110 :: u111 :: u112 :: u113 :: u114 :: undef :: [])
              (fun _ w' => Below W5.heap.size W5 w') (phiP [pv (.int .i64 av), pv (.bool true), pv (.bool true), pv (.slice (some ⟨cg, 0, none⟩) (s.size + 1) (s.size + 1)), pv (.int .i64 i), pv (.pointer (some ⟨cg, i, none⟩)), pv (.slice (some ⟨gi, 0, none⟩) K K), pv (.int .i64 c), pv (.pointer (some ⟨gi, c, none⟩)), pv (.int .i64 hv), pv (.int .i64 av), pv (.int .i64 ml), pv (.slice (some ⟨cg, 0, none⟩) (s.size + 1) (s.size + 1)), pv (.int .i64 i), pv (.pointer (some ⟨cg, i, none⟩)), pv (.slice (some ⟨gi, 0, none⟩) K K), pv (.int .i64 c), pv (.pointer (some ⟨gi, c, none⟩)), pv (.int .i64 hv), pv (.bool bb)]) (fun i => match i with | 0 => u87 | 1 => u88 | 2 => u89 | 3 => u90 | 4 => u91 | 5 => u92 | 6 => u93 | 7 => u94 | 8 => u95 | 9 => u96 | 10 => u97 | 11 => u98 | 12 => u99 | 13 => u100 | 14 => u101 | 15 => u102 | 16 => u103 | 17 => u104 | 18 => u105 | 19 => u106 | _ => undef)
              (by kernel_rfl) (by kernel_rfl) (by kernel_rfl) (by kernel_rfl) (fun i v wa wb h hb => phiP_keep (stay_cons (pv_st) (stay_cons (pv_st) (stay_cons (pv_st) (stay_cons (pv_st) (stay_cons (pv_st) (stay_cons (pv_st) (stay_cons (pv_st) (stay_cons (pv_st) (stay_cons (pv_st) (stay_cons (pv_st) (stay_cons (pv_st) (stay_cons (pv_st) (stay_cons (pv_st) (stay_cons (pv_st) (stay_cons (pv_st) (stay_cons (pv_st) (stay_cons (pv_st) (stay_cons (pv_st) (stay_cons (pv_st) (stay_cons (pv_st) stay_nil)))))))))))))))))))) h hb) (Below.refl _ _).drew [0, 1, 2, 3, 4, 5, 6, 7, 8, 9, 10, 11, 12, 13, 14, 15, 16, 17, 18, 19] (by kernel_rfl) ?_ ?_
             ·
              refine allCons ?_ (allCons ?_ (allCons ?_ (allCons ?_ (allCons ?_ (allCons ?_ (allCons ?_ (allCons ?_ (allCons ?_ (allCons ?_ (allCons ?_ (allCons ?_ (allCons ?_ (allCons ?_ (allCons ?_ (allCons ?_ (allCons ?_ (allCons ?_ (allCons ?_ (allCons ?_ (allNil))))))))))))))))))))
              all_goals intro y w10 K hS hd hK
              ·
               refine wpOp_step rfl (fun K2 hK2 => ?_)
               go_simp
               exact hK2 _ _ (hK _ _ hS rfl (Below.refl _ _))
              ·
               have e0 : y 0 = _ := hd 0 rfl
               obtain ⟨y, rfl⟩ := upd_at (y := y) (i := 0) e0
               dsimp [upd]
               refine wpOp_step rfl (fun K2 hK2 => ?_)
               go_simp
               exact hK2 _ _ (hK _ _ hS rfl (Below.refl _ _))
              ·
               have e1 : y 1 = _ := hd 1 rfl
               obtain ⟨y, rfl⟩ := upd_at (y := y) (i := 1) e1
               dsimp [upd]
               refine wpOp_step rfl (fun K2 hK2 => ?_)
               go_simp
               exact hK2 _ _ (hK _ _ hS rfl (Below.refl _ _))
              ·
               have e2 : y 2 = _ := hd 2 rfl
               obtain ⟨y, rfl⟩ := upd_at (y := y) (i := 2) e2
               dsimp [upd]
               refine wpOp_step rfl (fun K2 hK2 => ?_)
               go_simp
               exact hK2 _ _ (hK _ _ hS rfl (Below.refl _ _))
              ·
               have e2 : y 2 = _ := hd 2 rfl
               obtain ⟨y, rfl⟩ := upd_at (y := y) (i := 2) e2
               dsimp [upd]
               refine wpOp_step rfl (fun K2 hK2 => ?_)
               go_simp
               exact hK2 _ _ (hK _ _ hS rfl (Below.refl _ _))
              ·
               have e2 : y 2 = _ := hd 2 rfl
               have e3 : y 3 = _ := hd 3 rfl
               have e4 : y 4 = _ := hd 4 rfl
               obtain ⟨y, rfl⟩ := upd_at (y := y) (i := 2) e2
               obtain ⟨y, rfl⟩ := upd_at (y := y) (i := 3) e3
               obtain ⟨y, rfl⟩ := upd_at (y := y) (i := 4) e4
               dsimp [upd]
               refine wpOp_step rfl (fun K2 hK2 => ?_)
               go_simp
               exact hK2 _ _ (hK _ _ hS rfl (Below.refl _ _))
              ·
               have e2 : y 2 = _ := hd 2 rfl
               have e5 : y 5 = _ := hd 5 rfl
               obtain ⟨y, rfl⟩ := upd_at (y := y) (i := 2) e2
               obtain ⟨y, rfl⟩ := upd_at (y := y) (i := 5) e5
               dsimp [upd]
               have q4 := (hS.cell (p := ⟨cg, i, none⟩) hcg5).trans r0
               refine wpOp_step rfl (fun K2 hK2 => ?_)
               go_simp
               exact hK2 _ _ (hK _ _ hS rfl (Below.refl _ _))
              ·
               have e2 : y 2 = _ := hd 2 rfl
               obtain ⟨y, rfl⟩ := upd_at (y := y) (i := 2) e2
               dsimp [upd]
               refine wpOp_step rfl (fun K2 hK2 => ?_)
               go_simp
               exact hK2 _ _ (hK _ _ hS rfl (Below.refl _ _))
              ·
               have e2 : y 2 = _ := hd 2 rfl
               have e6 : y 6 = _ := hd 6 rfl
               have e7 : y 7 = _ := hd 7 rfl
               obtain ⟨y, rfl⟩ := upd_at (y := y) (i := 2) e2
               obtain ⟨y, rfl⟩ := upd_at (y := y) (i := 6) e6
               obtain ⟨y, rfl⟩ := upd_at (y := y) (i := 7) e7
               dsimp [upd]
               refine wpOp_step rfl (fun K2 hK2 => ?_)
               go_simp
               exact hK2 _ _ (hK _ _ hS rfl (Below.refl _ _))
              ·
               have e2 : y 2 = _ := hd 2 rfl
               have e8 : y 8 = _ := hd 8 rfl
               obtain ⟨y, rfl⟩ := upd_at (y := y) (i := 2) e2
               obtain ⟨y, rfl⟩ := upd_at (y := y) (i := 8) e8
               dsimp [upd]
               have q5 := (hS.cell (p := ⟨gi, c, none⟩) hg5).trans r1
               refine wpOp_step rfl (fun K2 hK2 => ?_)
               go_simp
               exact hK2 _ _ (hK _ _ hS rfl (Below.refl _ _))
              ·
               have e2 : y 2 = _ := hd 2 rfl
               obtain ⟨y, rfl⟩ := upd_at (y := y) (i := 2) e2
               dsimp [upd]
               refine wpOp_step rfl (fun K2 hK2 => ?_)
               go_simp
               exact hK2 _ _ (hK _ _ hS rfl (Below.refl _ _))
              ·
               have e2 : y 2 = _ := hd 2 rfl
               have e9 : y 9 = _ := hd 9 rfl
               have e10 : y 10 = _ := hd 10 rfl
               obtain ⟨y, rfl⟩ := upd_at (y := y) (i := 2) e2
               obtain ⟨y, rfl⟩ := upd_at (y := y) (i := 9) e9
               obtain ⟨y, rfl⟩ := upd_at (y := y) (i := 10) e10
               dsimp [upd]
               refine wpOp_step rfl (fun K2 hK2 => ?_)
               go_simp
               refine (HLE.out w10).mono ?_
               rintro e' w2 ⟨rfl, hb2⟩
               exact hK2 _ _ (hK _ _ (below_next hS hb2) rfl hb2)
              ·
               have e2 : y 2 = _ := hd 2 rfl
               obtain ⟨y, rfl⟩ := upd_at (y := y) (i := 2) e2
               dsimp [upd]
               refine wpOp_step rfl (fun K2 hK2 => ?_)
               go_simp
               exact hK2 _ _ (hK _ _ hS rfl (Below.refl _ _))
              ·
               have e2 : y 2 = _ := hd 2 rfl
               obtain ⟨y, rfl⟩ := upd_at (y := y) (i := 2) e2
               dsimp [upd]
               refine wpOp_step rfl (fun K2 hK2 => ?_)
               go_simp
               exact hK2 _ _ (hK _ _ hS rfl (Below.refl _ _))
              ·
               have e2 : y 2 = _ := hd 2 rfl
               have e12 : y 12 = _ := hd 12 rfl
               have e13 : y 13 = _ := hd 13 rfl
               obtain ⟨y, rfl⟩ := upd_at (y := y) (i := 2) e2
               obtain ⟨y, rfl⟩ := upd_at (y := y) (i := 12) e12
               obtain ⟨y, rfl⟩ := upd_at (y := y) (i := 13) e13
               dsimp [upd]
               refine wpOp_step rfl (fun K2 hK2 => ?_)
               go_simp
               exact hK2 _ _ (hK _ _ hS rfl (Below.refl _ _))
              ·
               have e2 : y 2 = _ := hd 2 rfl
               have e14 : y 14 = _ := hd 14 rfl
               obtain ⟨y, rfl⟩ := upd_at (y := y) (i := 2) e2
               obtain ⟨y, rfl⟩ := upd_at (y := y) (i := 14) e14
               dsimp [upd]
               have q13 := (hS.cell (p := ⟨cg, i, none⟩) hcg5).trans r0
               refine wpOp_step rfl (fun K2 hK2 => ?_)
               go_simp
               exact hK2 _ _ (hK _ _ hS rfl (Below.refl _ _))
              ·
               have e2 : y 2 = _ := hd 2 rfl
               obtain ⟨y, rfl⟩ := upd_at (y := y) (i := 2) e2
               dsimp [upd]
               refine wpOp_step rfl (fun K2 hK2 => ?_)
               go_simp
               exact hK2 _ _ (hK _ _ hS rfl (Below.refl _ _))
              ·
               have e2 : y 2 = _ := hd 2 rfl
               have e15 : y 15 = _ := hd 15 rfl
               have e16 : y 16 = _ := hd 16 rfl
               obtain ⟨y, rfl⟩ := upd_at (y := y) (i := 2) e2
               obtain ⟨y, rfl⟩ := upd_at (y := y) (i := 15) e15
               obtain ⟨y, rfl⟩ := upd_at (y := y) (i := 16) e16
               dsimp [upd]
               refine wpOp_step rfl (fun K2 hK2 => ?_)
               go_simp
               exact hK2 _ _ (hK _ _ hS rfl (Below.refl _ _))
              ·
               have e2 : y 2 = _ := hd 2 rfl
               have e17 : y 17 = _ := hd 17 rfl
               obtain ⟨y, rfl⟩ := upd_at (y := y) (i := 2) e2
               obtain ⟨y, rfl⟩ := upd_at (y := y) (i := 17) e17
               dsimp [upd]
               have q14 := (hS.cell (p := ⟨gi, c, none⟩) hg5).trans r1
               refine wpOp_step rfl (fun K2 hK2 => ?_)
               go_simp
               exact hK2 _ _ (hK _ _ hS rfl (Below.refl _ _))
              ·
               have e2 : y 2 = _ := hd 2 rfl
               have e11 : y 11 = _ := hd 11 rfl
               have e18 : y 18 = _ := hd 18 rfl
               obtain ⟨y, rfl⟩ := upd_at (y := y) (i := 2) e2
               obtain ⟨y, rfl⟩ := upd_at (y := y) (i := 11) e11
               obtain ⟨y, rfl⟩ := upd_at (y := y) (i := 18) e18
               dsimp [upd]
               have hbb := HBB.out
               refine wpOp_step rfl (fun K2 hK2 => ?_)
               go_simp
               exact hK2 _ _ (hK _ _ hS rfl (Below.refl _ _))
             ·
              intro y w10 f hS hd
              have e2 : y 2 = _ := hd 2 (by decide)
              have e19 : y 19 = _ := hd 19 (by decide)
              clear hd
              obtain ⟨y, rfl⟩ := upd_at (y := y) (i := 2) e2
              obtain ⟨y, rfl⟩ := upd_at (y := y) (i := 19) e19
              dsimp [upd]
              refine wpAny_one (i := 20) (by kernel_rfl) ?_
              refine wpOp_step rfl (fun K2 hK2 => ?_)
              go_simp
              refine hK2 _ _ ?_
              clear hK2 K2 e2 e19
              refine wpAny_done (by kernel_rfl) ?_ _
              have HM6 := Lib.hid (HM5.out.next hS)
              have r0' := (hS.cell (p := ⟨cg, i, none⟩) hcg5).trans r0
              have r1' := (hS.cell (p := ⟨gi, c, none⟩) hg5).trans r1
              clear hS HM5 r0 r1
              have f1 := (HM6.out.co.ro i (Nat.le_refl _) hie).free c
              rw [HGI.out] at f1
              cases bb with
              | false =>
               have HPP : Hid (ch = false → (∀ y, y < c → ∀ r, r < rs.length → PrC rs (bytes s) H4 (i, (theG rs).1.getD y St.start) r) ∧ ∀ r', r' < r + 1 → PrC rs (bytes s) H4 (i, ⟨sa, sb, sc⟩) r') := HPN.out (fun _ => by
                have h1 := HBB.out
                rw [bne_eq_false_iff_eq] at h1
                have h2 := HIF.out.1 h1
                have h3 := HBV.out
                rw [HAV.out, HHV.out]
                omega)
               clear HPN HAV HHV HIF
               go_wp2_with fail
               go_roundg (rs.length - (r + 1))
               case measure => rw [HGE.out]; omega
               case rel => exact ⟨r + 1, ch, H4, hrn, rfl, by go_num, rfl, HM6.out, HIP.out, HMU.out, HMT.out, HPP.out⟩
              | true =>
               have hlt2 : hv < 0 ∨ av < hv := by
                rcases Int.lt_or_le hv 0 with h | h
                ·
                 exact .inl h
                ·
                 rcases Int.lt_or_le av hv with h2 | h2
                 ·
                  exact .inr h2
                 ·
                  have h1 := HBB.out
                  rw [HIF.out.2 (by omega)] at h1
                  simp at h1
               have HIPN : Hid (InP a rs (bytes s) i (setH H4 (i, ⟨sa, sb, sc⟩) av)) := by
                have h := inP_set HG.out HFT.out hm HIP.out (st := ⟨sa, sb, sc⟩) (r := r) (by rw [HAV.out]; exact hp) (by rw [HAV.out, HHV.out]; exact hlt2)
                rw [HAV.out] at h
                exact h
               have hsame : setH H4 (i, ⟨sa, sb, sc⟩) av (i, ⟨sa, sb, sc⟩) = av := by unfold setH; rw [if_pos rfl]
               have hother : ∀ x1 y1, y1 < K → (x1 ≠ i ∨ y1 ≠ c) → fH rs (setH H4 (i, ⟨sa, sb, sc⟩) av) x1 y1 = fH rs H4 x1 y1 := fun x1 y1 h1 h2 => by
                unfold fH setH
                rw [if_neg (fun e => ?_)]
                injection e with e1 e2
                rcases h2 with h2 | h2
                ·
                 exact h2 e1
                ·
                 exact h2 (HSE.out y1 h1 e2)
               have hat : fH rs (setH H4 (i, ⟨sa, sb, sc⟩) av) i c = av := by
                unfold fH
                rw [HSTE.out]
                exact hsame
               have hold : fH rs H4 i c = hv := HFC.out.trans HHV.out
               have hbd := HBD.out _ HIPN.out.tgt (i, ⟨sa, sb, sc⟩) hi1 HMS.out
               rw [hsame] at hbd
               have HMN : Hid (muI Bd (fH rs (setH H4 (i, ⟨sa, sb, sc⟩) av) i) K < muI Bd (fH rs H4 i) K) := muI_lt K hck (fun y1 hy1 => by
                by_cases e : y1 = c
                ·
                 subst e
                 rw [hat, hold]
                 exact .inr ⟨hp, hbd.2, hlt2⟩
                ·
                 exact .inl (hother i y1 hy1 (.inr e))) (by rw [hat, hold]; omega)
               have HML : Hid (muI Bd (fH rs (setH H4 (i, ⟨sa, sb, sc⟩) av) i) K < muI Bd (fH rs H2 i) K) := Nat.lt_of_lt_of_le HMN.out HMU.out
               have HMW : Hid (SufM w1 cg (s.size + 1) K i g2 (fH rs (setH H4 (i, ⟨sa, sb, sc⟩) av)) (w10.setCell ⟨gi, c, none⟩ (.int .i64 av))) := by
                have h := HM6.out.put (f' := fH rs (setH H4 (i, ⟨sa, sb, sc⟩) av)) (Nat.le_refl _) hie hat (fun x1 y1 _ _ h1 h2 => hother x1 y1 h1 h2)
                rw [HGI.out] at h
                exact h
               clear hbd hold hat hother hsame hlt2 HPN HAV HHV HIF HM6
               go_wp2_with fail
               go_roundg (rs.length - (r + 1))
               case measure => rw [HGE.out]; omega
               case rel => exact ⟨r + 1, true, _, hrn, rfl, by go_num, rfl, HMW.out, HIPN.out, Nat.le_of_lt HML.out, fun _ => HML.out, fun h => by cases h⟩
          ·
           obtain rfl : r = rs.length := by omega
           have HPR2 : Hid (ch = false → ∀ y, y < c + 1 → ∀ r, r < rs.length → PrC rs (bytes s) H4 (i, (theG rs).1.getD y St.start) r) := fun h y hy r' hr' => by
            by_cases e : y = c
            ·
             subst e; exact (HPR.out h).2 r' hr'
            ·
             exact (HPR.out h).1 y (by omega) r' hr'
           clear HPR HGE
           go_wp2_with fail
           go_roundg (K - (c + 1))
           case measure => rw [HGD.out]; omega
           case rel => exact ⟨c + 1, ch, H4, hck, rfl, by go_num, rfl, HSM.out, HIP.out, HMU.out, HMT.out, HPR2.out⟩
        ·
         obtain rfl : c = K := by omega
         clear HGD
         go_wp2_with fail
         go_roundg (if ch = true then muI Bd (fH rs H3 i) c + 1 else 0)
         case measure =>
          rw [HGC.out]
          cases ch with
          | true => have := HMT.out rfl; rw [if_pos rfl]; omega
          | false => rw [if_neg Bool.false_ne_true]; omega
         case rel => exact ⟨ch, H3, rfl, rfl, HSM.out, HIP.out, HPR.out⟩
end Go.Proofs.Ytpkdlljefkbmpaa
