/- Merged by program: Tq7 Tq8 -/
import Derived.Test.YtpkdlljefkbmpaaT10
import Derived.Test.YtpkdlljefkbmpaaT1
import Derived.Test.YtpkdlljefkbmpaaT11
import Derived.Test.YtpkdlljefkbmpaaQ23

/-! The reference of package translate, purely: what it marks as reached is what is reached; its memory. -/
namespace Go.Proofs.Ytpkdlljefkbmpaa
open Go.RowKit Go.Maps
structure RcP (rs : List Rule) (s : List Nat) (i : Nat) (B : Nat × St → Bool) : Prop where
 snd : ∀ v, B v = true → ∃ ks, goE (edgR rs s) (0, St.start) ks = some v
 one : B (0, St.start) = true
 cls : ∀ v, v.1 < i → v.2 ∈ (theG rs).1 → B v = true → ∀ k u, edgR rs s v k = some u → B u = true
def RchG (rs : List Rule) (s : List Nat) (i : Nat) : Prop := ∃ ks u, goE (edgR rs s) (0, St.start) ks = some (i, u) ∧ bitB u.need (fcl (s.drop i)) = true
theorem goR_mono {rs : List Rule} {s : List Nat} : ∀ (ks : List Int) (v u : Nat × St), goE (edgR rs s) v ks = some u → v.1 ≤ u.1 := by
 intro ks
 induction ks with
 | nil => intro v u h; cases h; exact Nat.le_refl _
 | cons k r ih =>
  intro v u h
  obtain ⟨x, h1, h2⟩ := goE_cons.1 h
  obtain ⟨j, rfl, hj, _, _, rfl⟩ := edgR_some h1
  have := ih _ _ h2
  dsimp only at this
  omega
theorem rcP_all {m a : Int} {rs : List Rule} (hG : GoodL m a rs) (hf : ∀ x ∈ rs, x.fits) (hm : 1 ≤ m ∧ m ≤ 8) {s : List Nat} {i : Nat} {B : Nat × St → Bool} (H : RcP rs s (i + 1) B) : ∀ (ks : List Int) (v u : Nat × St), B v = true → v.1 ≤ s.length → v.2 ∈ (theG rs).1 → goE (edgR rs s) v ks = some u → u.1 ≤ i → B u = true ∧ u.2 ∈ (theG rs).1 := by
 intro ks
 induction ks with
 | nil => intro v u h1 _ h3 h4 _; cases h4; exact ⟨h1, h3⟩
 | cons k r ih =>
  intro v u h1 h2 h3 h4 h5
  obtain ⟨x, h6, h7⟩ := goE_cons.1 h4
  obtain ⟨g1, g2, g3⟩ := edgR_in hG hf hm h2 h3 h6
  have := goR_mono r x u h7
  exact ih x u (H.cls v (by omega) h3 h1 k x h6) g2 g3 h7 h5
theorem top_R {m a : Int} {rs : List Rule} (hG : GoodL m a rs) (hf : ∀ x ∈ rs, x.fits) {s : List Nat} {G : Nat} (h1 : RchG rs s G) (h2 : ∀ i, i ≤ s.length → RchG rs s i → i ≤ G) : TopP rs s G := by
 have hfb := fcl_bd (s.drop 0)
 have hb63 := bit_63 (fcl (s.drop 0)) hfb.1 hfb.2
 constructor
 ·
  obtain ⟨ks, u, g1, g2⟩ := h1
  exact ⟨_, ks, ((go_both hG hf ks 0 G 0 63 (Nat.zero_le _) (by decide) (by decide)).1 u g1 g2).2⟩
 ·
  rintro ⟨i, mo⟩ ⟨ks, h⟩
  obtain ⟨u, g1, g2, _⟩ := (go_both hG hf ks 0 i 0 63 (Nat.zero_le _) (by decide) (by decide)).2 mo hb63 h
  have g3 := ((goR_steps ks 0 St.start i u (Nat.zero_le _)).1 g1).2
  have hl := g3.1.length_le
  rw [List.drop_zero] at hl
  exact h2 i (by omega) ⟨ks, u, g1, g2⟩
theorem rch_zero (rs : List Rule) (s : List Nat) : RchG rs s 0 := by
 have hfb := fcl_bd (s.drop 0)
 exact ⟨[], St.start, rfl, bit_63 (fcl (s.drop 0)) hfb.1 hfb.2⟩
def setB (B : Nat × St → Bool) (v : Nat × St) (x : Nat × St) : Bool := if x = v then true else B x
theorem setB_same (B : Nat × St → Bool) (v : Nat × St) : setB B v v = true := by unfold setB; rw [if_pos rfl]
theorem setB_ne {B : Nat × St → Bool} {v x : Nat × St} (h : x ≠ v) : setB B v x = B x := by unfold setB; rw [if_neg h]
theorem setB_mono {B : Nat × St → Bool} {v x : Nat × St} (h : B x = true) : setB B v x = true := by
 by_cases e : x = v
 ·
  rw [e]; exact setB_same B v
 ·
  rw [setB_ne e]; exact h
theorem RcP.set {rs : List Rule} {s : List Nat} {i k : Nat} {B : Nat × St → Bool} (H : RcP rs s i B) {st : St} {u : Nat × St} (hv : B (i, st) = true) (he : edgR rs s (i, st) (k : Int) = some u) : RcP rs s i (setB B u) := by
 obtain ⟨j, _, hj, _, _, e⟩ := edgR_some he
 have hui : i ≤ u.1 := by rw [e]; exact Nat.le_add_right _ _
 refine ⟨fun v h => ?_, setB_mono H.one, fun v h1 h2 h3 k' u' h4 => ?_⟩
 ·
  by_cases e : v = u
  ·
   subst e
   obtain ⟨ks, h5⟩ := H.snd _ hv
   refine ⟨ks ++ [(k : Int)], ?_⟩
   rw [goE_app, h5]
   exact goE_cons.2 ⟨v, he, rfl⟩
  ·
   rw [setB_ne e] at h
   exact H.snd v h
 ·
  rw [setB_ne (fun e => by rw [e] at h1; omega)] at h3
  exact setB_mono (H.cls v h1 h2 h3 k' u' h4)
theorem RcP.done {rs : List Rule} {s : List Nat} {i : Nat} {B : Nat × St → Bool} (H : RcP rs s i B) (h : ∀ st, st ∈ (theG rs).1 → B (i, st) = true → ∀ r, r < rs.length → ∀ u, edgR rs s (i, st) (r : Int) = some u → B u = true) : RcP rs s (i + 1) B := by
 refine ⟨H.snd, H.one, fun v h1 h2 h3 k u h4 => ?_⟩
 by_cases e : v.1 < i
 ·
  exact H.cls v e h2 h3 k u h4
 ·
  obtain ⟨vi, st⟩ := v
  obtain rfl : vi = i := by dsimp only at h1 e; omega
  obtain ⟨j, rfl, hj, _⟩ := edgR_some h4
  exact h st h2 h3 j hj u h4
def startB (v : Nat × St) : Bool := decide (v = (0, St.start))
theorem rcP_start {rs : List Rule} {s : List Nat} : RcP rs s 0 startB := by
 refine ⟨fun v h => ?_, by unfold startB; exact decide_eq_true rfl, fun v h => by omega⟩
 unfold startB at h
 rw [decide_eq_true_eq] at h
 exact ⟨[], by rw [h]; rfl⟩
theorem sum_le {f f' : Nat → Nat} : ∀ n, (∀ b, b < n → f' b ≤ f b) → sumTo f' n ≤ sumTo f n := by
 intro n
 induction n with
 | zero => intro _; exact Nat.le_refl _
 | succ n ih =>
  intro h
  have h1 := ih fun b hb => h b (by omega)
  have h2 := h n (by omega)
  simp only [sumTo]
  omega
theorem sum_lt {f f' : Nat → Nat} {j : Nat} : ∀ n, j < n → (∀ b, b < n → f' b ≤ f b) → f' j < f j → sumTo f' n < sumTo f n := by
 intro n
 induction n with
 | zero => intro h; omega
 | succ n ih =>
  intro hj h hlt
  have h2 := h n (by omega)
  simp only [sumTo]
  by_cases e : j = n
  ·
   subst e
   have h1 := sum_le (f := f) (f' := f') j fun b hb => h b (by omega)
   omega
  ·
   have h1 := ih (by omega) (fun b hb => h b (by omega)) hlt
   omega
def fB (rs : List Rule) (B : Nat × St → Bool) (i k : Nat) : Bool := B (i, (theG rs).1.getD k St.start)
def muB (L K : Nat) (f : Nat → Nat → Bool) : Nat := sumTo (fun i => sumTo (fun k => if f i k = true then 0 else 1) K) L
theorem muB_lt {L K : Nat} {f f' : Nat → Nat → Bool} (h : ∀ i k, i < L → k < K → f i k = true → f' i k = true) {i k : Nat} (hi : i < L) (hk : k < K) (h0 : f i k = false) (h1 : f' i k = true) : muB L K f' < muB L K f := by
 have key : ∀ i k, i < L → k < K → (if f' i k = true then 0 else 1) ≤ (if f i k = true then 0 else 1) := fun i k hi hk => by
  split
  ·
   exact Nat.zero_le _
  ·
   rename_i e
   rw [if_neg (fun e2 => e (h i k hi hk e2))]
   exact Nat.le_refl _
 refine sum_lt L hi (fun i hi => sum_le K fun k hk => key i k hi hk) (sum_lt K hk (fun k hk => key i k hi hk) ?_)
 rw [if_pos h1, if_neg (by rw [h0]; exact Bool.false_ne_true)]
 exact Nat.zero_lt_one
structure CoB (w1 : World) (cg L K hi : Nat) (g : Nat → Nat) (f : Nat → Nat → Bool) (w : World) : Prop where
 co : Blk w cg 53 (rowOf (fun i => if i < hi then .slice (some ⟨g i, 0, none⟩) K K else .slice none 0 0) L)
 ro : ∀ i, i < hi → i < L → Blk w (g i) 4 (rowOf (fun k => .bool (f i k)) K)
 inj : ∀ i j, i < j → j < hi → j < L → g i ≠ g j
 bb : Below w1.heap.size w1 w
 bg : ∀ i, i < hi → i < L → w1.heap.size ≤ g i
 bc : w1.heap.size ≤ cg
section
variable {w1 w w' : World} {cg L K hi : Nat} {g : Nat → Nat} {f f' : Nat → Nat → Bool}
theorem CoB.next (H : CoB w1 cg L K hi g f w) (hb : Below w.heap.size w w') : CoB w1 cg L K hi g f w' := ⟨H.co.keep hb H.co.lt, fun i h1 h2 => (H.ro i h1 h2).keep hb (H.ro i h1 h2).lt, H.inj, below_next H.bb hb, H.bg, H.bc⟩
theorem CoB.congr (H : CoB w1 cg L K hi g f w) (h : ∀ i k, i < hi → i < L → k < K → f i k = f' i k) : CoB w1 cg L K hi g f' w :=
 ⟨H.co, fun i h1 h2 => by
  have h3 := H.ro i h1 h2
  rw [rowOf_congr (g := fun k => .bool (f' i k)) (fun k hk => by rw [h i k h1 h2 hk])] at h3
  exact h3, H.inj, H.bb, H.bg, H.bc⟩
theorem CoB.put (H : CoB w1 cg L K hi g f w) {i k : Nat} (hi1 : i < hi) (hL : i < L) (hv : f' i k = true) (ho : ∀ a b, a < L → b < K → (a ≠ i ∨ b ≠ k) → f' a b = f a b) : CoB w1 cg L K hi g f' (w.setCell ⟨g i, k, none⟩ (.bool true)) := by
 have key : ∀ b, b ≠ g i → (w.setCell ⟨g i, k, none⟩ (.bool true)).heap[b]? = w.heap[b]? := fun b hb => Below.heap_setCell _ ⟨g i, k, none⟩ _ b hb
 have hr := H.ro i hi1 hL
 refine ⟨(key cg (fun e => Blk.type_ne H.co hr (by decide) e)).trans H.co, fun i' h1 h2 => ?_, H.inj, H.bb.setCell (H.bg i hi1 hL) _, H.bg, H.bc⟩
 by_cases e : i' = i
 ·
  subst e
  have h3 := (H.ro i' h1 h2).set k (.bool true)
  rw [rowOf_set (fun k => .bool (f i' k)) (fun b => .bool (if b = k then true else f i' b)) K k (.bool true) (by simp) (fun b hb => by simp [hb])] at h3
  rw [rowOf_congr (g := fun b => .bool (f' i' b)) (fun b hb => by
   by_cases e : b = k
   ·
    subst e; simp [hv]
   ·
    simp only [if_neg e]; rw [ho i' b h2 hb (.inr e)])] at h3
  exact h3
 ·
  have hne : g i' ≠ g i := by
   rcases Nat.lt_or_ge i' i with g1 | g1
   ·
    exact H.inj i' i g1 hi1 hL
   ·
    exact (H.inj i i' (by omega) h1 h2).symm
  have h3 := (key (g i') hne).trans (H.ro i' h1 h2)
  rw [rowOf_congr (g := fun b => .bool (f' i' b)) (fun b hb => by rw [ho i' b h2 hb (.inl e)])] at h3
  exact h3
theorem CoB.row (H : CoB w1 cg L K hi g f w) (hlo : hi < L) (hf : ∀ k, f' hi k = false) (ho : ∀ a k, a < hi → k < K → f' a k = f a k) : CoB w1 cg L K (hi + 1) (fun i => if i = hi then w.heap.size else g i) f' ((w.alloc (.cells (Array.replicate K (.bool false)) 4)).setCell ⟨cg, hi, none⟩ (.slice (some ⟨w.heap.size, 0, none⟩) K K)) := by
 have hbx := below_box w (Array.replicate K (.bool false)) 4
 have hn := Blk.new w (Array.replicate K (.bool false)) 4
 have er : Array.replicate K (Value.bool false) = rowOf (fun k => .bool (f' hi k)) K := by
  rw [rowOf_congr (g := fun _ => .bool false) (fun k _ => by rw [hf k])]
  unfold rowOf
  rw [List.map_const', List.length_range]
  simp
 rw [er] at hn hbx ⊢
 have H' := H.next hbx
 generalize w.alloc (.cells (rowOf (fun k => .bool (f' hi k)) K) 4) = W at *
 have key : ∀ p, p ≠ cg → (W.setCell ⟨cg, hi, none⟩ (.slice (some ⟨w.heap.size, 0, none⟩) K K)).heap[p]? = W.heap[p]? := fun p hp => Below.heap_setCell _ ⟨cg, hi, none⟩ _ p hp
 refine ⟨?_, fun i h1 h2 => ?_, fun i j h1 h2 h3 => ?_, H'.bb.setCell H.bc _, fun i h1 h2 => ?_, H.bc⟩
 ·
  have h3 := H'.co.set hi (.slice (some ⟨w.heap.size, 0, none⟩) K K)
  rw [rowOf_set _ (fun i => if i < hi + 1 then .slice (some ⟨if i = hi then w.heap.size else g i, 0, none⟩) K K else .slice none 0 0) L hi _ (by simp) (fun j hj => by
   by_cases e : j < hi
   ·
    rw [if_pos e, if_pos (show j < hi + 1 by omega), if_neg hj]
   ·
    rw [if_neg e, if_neg (show ¬ j < hi + 1 by omega)])] at h3
  exact h3
 ·
  by_cases e : i = hi
  ·
   subst e
   simp only [if_true]
   exact (key _ (fun e => Blk.type_ne H'.co hn (by decide) e.symm)).trans hn
  ·
   simp only [if_neg e]
   have h4 := H'.ro i (by omega) h2
   have h5 := (key (g i) (fun e => Blk.type_ne H'.co h4 (by decide) e.symm)).trans h4
   rw [rowOf_congr (g := fun k => .bool (f' i k)) (fun k hk => by rw [ho i k (by omega) hk])] at h5
   exact h5
 ·
  have e2 : ¬ i = hi := by omega
  by_cases e : j = hi
  ·
   simp only [if_pos e, if_neg e2]
   have := (H.ro i (by omega) (by omega)).lt
   omega
  ·
   simp only [if_neg e, if_neg e2]
   exact H.inj i j h1 (by omega) h3
 ·
  show w1.heap.size ≤ (if i = hi then w.heap.size else g i)
  split
  ·
   exact H.bb.size
  ·
   exact H.bg i (by omega) h2
theorem CoB.cells (H : CoB w1 cg L K hi g f w) {i k : Nat} (hi1 : i < hi) (hL : i < L) (hk : k < K) : w.cell? ⟨cg, i, none⟩ = some (.slice (some ⟨g i, 0, none⟩) K K) ∧ w.cell? ⟨g i, k, none⟩ = some (.bool (f i k)) := by
 have h1 := H.co.cell i
 rw [rowOf_get _ _ _ hL, if_pos hi1] at h1
 have h2 := (H.ro i hi1 hL).cell k
 rw [rowOf_get _ _ _ hk] at h2
 exact ⟨h1, h2⟩
end
end Go.Proofs.Ytpkdlljefkbmpaa

/-! The reference of package translate: the greatest place that is reached. -/
namespace Go.Proofs.Ytpkdlljefkbmpaa
open Go.RowKit Go.Maps
def Rch6End (rs : List Rule) (l : List Nat) (w : World) (e : Ending) (w' : World) : Prop := ∃ G : Nat, e = .returned (.int .i64 G) ∧ TopP rs l G ∧ Below w.heap.size w w'
def PrB (rs : List Rule) (s : List Nat) (i : Nat) (B : Nat × St → Bool) (y r : Nat) : Prop := fB rs B i y = true → ∀ u, edgR rs s (i, (theG rs).1.getD y St.start) (r : Int) = some u → B u = true
theorem edg_at {rs : List Rule} {s : List Nat} {i : Nat} {st : St} {r : Nat} (hr : r < rs.length) : edgR rs s (i, st) (r : Int) = if (stepS rs st (r : Int)).2 = true ∧ (bytes rs[r].p).isPrefixOf (s.drop i) = true then some (i + rs[r].p.size, (stepS rs st (r : Int)).1) else none := by
 unfold edgR
 rw [rule_at hr]
theorem info_bools : (Try.prog.info? 53).map (fun i => (i.zero, i.size, i.bytes)) = some (some (.slice none 0 0), 1, 24) := by kernel_rfl
theorem make_brows (w : World) (n : Nat) (hn : n < 2 ^ 42) :
  (Instr.makeSlice 133 (.int .i64 n) (.int .i64 n)).run Try.prog w = .ok (.slice (some ⟨w.heap.size, 0, none⟩) n n) (w.alloc (.cells (rowOf (fun _ => .slice none 0 0) n) 53)) := by
 obtain ⟨i0, hi, hz0, hz1, hz2⟩ := info_parts info_bools
 have := run_make (P := Try.prog) w 133 53 i0 (.slice none 0 0) Try.underlying133 hi hz0 .i64 .i64 n n (by omega) (by omega) (by rw [hz2]; omega) (by omega)
 rw [this, hz1, ← made_row]; simp [Value.cells]
set_option maxRecDepth 10000 in
set_option maxHeartbeats 8000000 in
theorem reached6_any (m a : Int) (A : Option Addr) (n k : Nat) (rs : List Rule) (s : ByteArray) (w : World) (hn : rs.length = n) (hR : Rules w w.heap.size A rs) (hG : GoodL m a rs) (hmax : n ≤ 64) (hm : 1 ≤ m ∧ m ≤ 8) (hs : s.size < 2 ^ 36) :
  Calls Try.prog 38 #[.agg #[.int .i64 m, .int .u8 a, .slice A n k], .string s] w (Rch6End rs (bytes s) w) := by
 subst hn
 obtain ⟨K, hK⟩ : ∃ K, (theG rs).1.length = K := ⟨_, rfl⟩
 have hft := hR.fit
 have hK1 : K ≤ 3072 := by rw [← hK]; exact (theG_ok hG hft hm.1).le ⟨by omega, hm.2⟩
 have hK2 : 0 < K := by rw [← hK]; exact (List.getElem?_eq_some_iff.1 (theG_first rs)).1
 have HKE := Lib.hid hK
 have HG := Lib.hid hG
 have HFT := Lib.hid hft
 have HTB : Hid (Blk (w.alloc (.cells #[.int .i64 m, .int .u8 a, .slice A rs.length k] 30)) w.heap.size 30 #[.int .i64 m, .int .u8 a, .slice A rs.length k]) := Blk.new _ _ _
 have HBV : Hid (Below w.heap.size w (w.alloc (.cells #[.int .i64 m, .int .u8 a, .slice A rs.length k] 30))) := below_box _ _ _
 have HR := Lib.hid (hR.up HBV.out)
 clear hR hG hft hK
 go_enter Try.func38, Try.ntmps38
 go_wp2_with fail
 generalize w.alloc (.cells #[.int .i64 m, .int .u8 a, .slice A rs.length k] 30) = V at *
 obtain ⟨q, hq⟩ : ∃ q, w.heap.size = q := ⟨_, rfl⟩
 rw [hq] at HTB
 simp only [hq]
 have HQ := Lib.hid hq
 clear hq
 refine (rStates_any m a A rs.length k rs V rfl HR.out HG.out hmax hm).mono ?_
 rintro e w1 ⟨LA, lk, rfl, hst, hb1⟩
 rw [HKE.out]
 have HST := Lib.hid hst
 have HT1 := Lib.hid (HTB.out.keep hb1 HTB.out.lt)
 have HR1 := Lib.hid (HR.out.up hb1)
 have HB1 := Lib.hid (below_next HBV.out hb1)
 have HQ1 : Hid (q < w1.heap.size) := HT1.out.lt
 clear hst hb1 HR HTB HBV
 have hmk : (Instr.makeSlice 133 (.int .i64 ((s.size : Int) + 1)) (.int .i64 ((s.size : Int) + 1))).run Try.prog w1 = .ok (.slice (some ⟨w1.heap.size, 0, none⟩) (s.size + 1) (s.size + 1)) (w1.alloc (.cells (rowOf (fun _ => .slice none 0 0) (s.size + 1)) 53)) := by
  have h := make_brows w1 (s.size + 1) (by omega)
  rw [Int.natCast_add] at h
  exact h
 have hsz0 : (0 : Int) ≤ (s.size : Int) := by omega
 have HM0 : Hid (CoB w1 w1.heap.size (s.size + 1) K 0 (fun _ => 0) (fun _ _ => false) (w1.alloc (.cells (rowOf (fun _ => .slice none 0 0) (s.size + 1)) 53))) := by
  have hn := Blk.new w1 (rowOf (fun _ => .slice none 0 0) (s.size + 1)) 53
  rw [rowOf_congr (g := fun i => if i < 0 then .slice (some ⟨0, 0, none⟩) K K else .slice none 0 0) (fun i hi => by rw [if_neg (by omega)])] at hn
  exact ⟨hn, fun i h1 h2 => by omega, fun i j h1 h2 h3 => by omega, below_box _ _ _, fun i h1 h2 => by omega, Nat.le_refl _⟩
 go_upto_region 3 with fail
 clear hmk
 generalize w1.alloc (.cells (rowOf (fun _ => .slice none 0 0) (s.size + 1)) 53) = w2 at *
 obtain ⟨cg, hcg⟩ : ∃ cg, w1.heap.size = cg := ⟨_, rfl⟩
 have HM1 := HM0
 rw [hcg] at HM1
 simp only [hcg]
 have HCG := Lib.hid hcg
 clear hcg HM0
 go_wp2_with fail
 go_loopg [8] (s.size + 1) (fun gk s8 wx => ∃ (i : Nat) (g : Nat → Nat), i ≤ s.size + 1 ∧ gk = s.size + 1 - i ∧ s8 = .int .i64 i ∧ CoB w1 cg (s.size + 1) K i g (fun _ _ => false) wx)
 case atStart => exact ⟨0, _, Nat.zero_le _, rfl, rfl, HM1.out⟩
 case round =>
  obtain ⟨i, g, hi, hgk, rfl, hcb⟩ := hrel
  clear HM1
  have HCB := Lib.hid hcb
  have HGK := Lib.hid hgk
  clear hcb hgk
  have hi0 : (0 : Int) ≤ (i : Int) := by omega
  by_cases hlt : i ≤ s.size
  ·
   have hil : (i : Int) < (s.size : Int) + 1 := by omega
   have hle : (i : Int) ≤ (s.size : Int) := by omega
   have HMR := Lib.hid (HCB.out.row (f' := fun _ _ => false) (by omega) (fun _ => rfl) (fun _ _ _ _ => rfl))
   have hmk := make_bool wr K (by omega)
   rw [show ((List.replicate K false).map Value.bool).toArray = Array.replicate K (Value.bool false) from by simp] at hmk
   have hbx := below_box wr (Array.replicate K (.bool false)) 4
   have f0 := (HCB.out.co.keep hbx HCB.out.co.lt).free i
   have c0 := (HCB.out.co.keep hbx HCB.out.co.lt).cell i
   rw [rowOf_get _ _ _ (by omega), if_neg (by omega)] at c0
   have hK0 : (0 : Int) ≤ (K : Int) := by omega
   clear hbx HCB
   go_wp2_with fail
   go_roundg (s.size + 1 - (i + 1))
   case measure => rw [HGK.out]; omega
   case rel => exact ⟨i + 1, _, by omega, rfl, by go_num, HMR.out⟩
  ·
   obtain rfl : i = s.size + 1 := by omega
   clear HGK
   have HS0 : Hid (CoB w1 cg (s.size + 1) K (s.size + 1) g (fB rs startB) (wr.setCell ⟨g 0, 0, none⟩ (.bool true))) := by
    refine HCB.out.put (f' := fB rs startB) (by omega) (by omega) ?_ (fun x y h1 h2 h3 => ?_)
    ·
     unfold fB startB
     rw [stk_at (by rw [HKE.out]; exact hK2)]
     have h := theG_first rs
     rw [List.getElem?_eq_getElem (by rw [HKE.out]; exact hK2)] at h
     rw [Option.some.inj h]
     exact decide_eq_true rfl
    ·
     unfold fB startB
     refine decide_eq_false (fun e => ?_)
     injection e with e1 e2
     rcases h3 with h3 | h3
     ·
      exact h3 e1
     ·
      refine h3 (stk_ne HG.out HFT.out hm.1 (by rw [HKE.out]; exact h2) (by rw [HKE.out]; exact hK2) ?_)
      rw [e2]
      have h := theG_first rs
      rw [List.getElem?_eq_getElem (by rw [HKE.out]; exact hK2)] at h
      rw [stk_at (by rw [HKE.out]; exact hK2)]
      exact (Option.some.inj h).symm
   obtain ⟨r0, r1⟩ := HCB.out.cells (i := 0) (k := 0) (by omega) (by omega) hK2
   have f1 := (HCB.out.ro 0 (by omega) (by omega)).free 0
   have hKi : (0 : Int) < (K : Int) := by omega
   have hL1 : (0 : Int) < (s.size : Int) + 1 := by omega
   have hnle : ¬ ((s.size : Int) + 1 ≤ (s.size : Int)) := by omega
   go_upto_region 8 with fail
   clear r0 r1 f1 HCB
   generalize wr.setCell ⟨g 0, 0, none⟩ (.bool true) = W0 at *
   go_wp2_with fail
   go_loopg [7, 9] (s.size + 1) (fun gk s7 s9 wx => ∃ (i G : Nat) (B : Nat × St → Bool), i ≤ s.size + 1 ∧ gk = s.size + 1 - i ∧ s7 = .int .i64 G ∧ s9 = .int .i64 i ∧ CoB w1 cg (s.size + 1) K (s.size + 1) g (fB rs B) wx ∧ RcP rs (bytes s) i B ∧ RchG rs (bytes s) G ∧ (∀ i', i' < i → RchG rs (bytes s) i' → i' ≤ G))
   case atStart => exact ⟨0, 0, startB, Nat.zero_le _, rfl, rfl, rfl, HS0.out, rcP_start, rch_zero _ _, fun i' h => absurd h (Nat.not_lt_zero _)⟩
   case round =>
    obtain ⟨i, G, B, hi, hgk, rfl, rfl, hcb, hrc, hrg, htp⟩ := hrel
    clear HS0
    have HCB := Lib.hid hcb
    have HRC := Lib.hid hrc
    have HRG := Lib.hid hrg
    have HTP := Lib.hid htp
    have HGK := Lib.hid hgk
    clear hcb hrc hrg htp hgk
    have hi0 : (0 : Int) ≤ (i : Int) := by omega
    by_cases hlt : i ≤ s.size
    ·
     have hil : (i : Int) < (s.size : Int) + 1 := by omega
     have hle : (i : Int) ≤ (s.size : Int) := by omega
     go_wp2_with fail
     go_loopg [10] (muB (s.size + 1) K (fB rs B) + 1) (fun gc s10 wx => ∃ (ch : Bool) (B : Nat × St → Bool), s10 = .bool ch ∧ gc = (if ch = true then muB (s.size + 1) K (fB rs B) + 1 else 0) ∧ CoB w1 cg (s.size + 1) K (s.size + 1) g (fB rs B) wx ∧ RcP rs (bytes s) i B ∧ (ch = false → ∀ y, y < K → ∀ r, r < rs.length → PrB rs (bytes s) i B y r))
     case atStart => exact ⟨true, B, rfl, by rw [if_pos rfl], HCB.out, HRC.out, fun h => by cases h⟩
     case round =>
      obtain ⟨ch, B2, rfl, hgc, hcb, hrc, hpr⟩ := hrel
      clear HCB HRC
      have HCB := Lib.hid hcb
      have HRC := Lib.hid hrc
      have HPR := Lib.hid hpr
      have HGC := Lib.hid hgc
      clear hcb hrc hpr hgc
      cases ch with
      | false =>
       have HRN : Hid (RcP rs (bytes s) (i + 1) B2) := HRC.out.done (fun st hst hb r hr u he => by
        obtain ⟨y, hy, rfl⟩ := List.getElem_of_mem hst
        rw [HKE.out] at hy
        exact HPR.out rfl y hy r hr (by unfold fB; rw [stk_at (by rw [HKE.out]; exact hy)]; exact hb) u (by rw [stk_at (by rw [HKE.out]; exact hy)]; exact he))
       clear HPR HGC HRC
       have HFC : Hid (i < s.size → ∀ h : i < s.size, fcl ((bytes s).drop i) = clsI ((s[i]'h).toNat : Nat)) := fun _ h => by
        have h1 := bytes_at s i h
        have h2 : i < (bytes s).length := by rw [bytes_len]; exact h
        rw [List.drop_eq_getElem_cons h2]
        rw [List.getElem?_eq_getElem h2] at h1
        unfold fcl
        rw [Option.some.inj h1]
       have HF0 : Hid (i = s.size → fcl ((bytes s).drop i) = 0) := fun h => by
        rw [List.drop_eq_nil_of_le (by rw [bytes_len]; omega)]; rfl
       have hfb := fcl_bd ((bytes s).drop i)
       obtain ⟨cl, hcl⟩ : ∃ cl, fcl ((bytes s).drop i) = cl := ⟨_, rfl⟩
       rw [hcl] at HFC HF0 hfb
       have HCL := Lib.hid hcl
       clear hcl
       obtain ⟨we, rfl⟩ : ∃ we : World, we = wr := ⟨_, rfl⟩
       go_upto_if 123 with fail
       go_cut [16] from 123 to 127 (fun s16 wc => s16 = .int .i64 cl ∧ wc = we)
       case first =>
        by_cases hend : i < s.size
        ·
         have hend2 : (i : Int) < (s.size : Int) := by omega
         have hx := bytes_lt s _ (List.mem_of_getElem? (bytes_at s i hend))
         have HFC2 := Lib.hid (HFC.out hend hend)
         clear HFC HF0
         generalize hxe : (s[i]'hend).toNat = x at *
         go_wp2_with fail
         refine (rClass_any _ (by omega) (by omega) _).mono ?_
         rintro e w' ⟨rfl, rfl⟩
         rw [show clsI (x : Int) = cl from HFC2.out.symm]
         go_wp2_with fail
         go_meet
         exact ⟨rfl, rfl⟩
        ·
         have hend2 : ¬ (i : Int) < (s.size : Int) := by omega
         obtain rfl : cl = 0 := HF0.out (by omega)
         go_wp2_with fail
         go_meet
         exact ⟨rfl, rfl⟩
       case rest =>
        obtain ⟨rfl, rfl⟩ := hcut
        clear HFC HF0
        go_wp2_with fail
        go_loopg [7, 17] K (fun gd s7 s17 wx => ∃ (c G2 : Nat), c ≤ K ∧ gd = K - c ∧ s17 = .int .i64 c ∧ s7 = .int .i64 G2 ∧ RchG rs (bytes s) G2 ∧ (∀ i', i' < i → RchG rs (bytes s) i' → i' ≤ G2) ∧ (∀ y, y < c → fB rs B2 i y = true → bitB ((theG rs).1.getD y St.start).need cl = true → i ≤ G2) ∧ CoB w1 cg (s.size + 1) K (s.size + 1) g (fB rs B2) wx)
        case atStart => exact ⟨0, G, Nat.zero_le _, rfl, rfl, rfl, HRG.out, HTP.out, fun y hy => absurd hy (Nat.not_lt_zero _), HCB.out⟩
        case round =>
         obtain ⟨c, G2, hc, hgd, rfl, rfl, hrg, htp, hmx, hcb⟩ := hrel
         clear HCB HRG HTP
         have HCB := Lib.hid hcb
         have HRG := Lib.hid hrg
         have HTP := Lib.hid htp
         have HMX := Lib.hid hmx
         have HGD := Lib.hid hgd
         clear hcb hrg htp hmx hgd
         have hc0 : (0 : Int) ≤ (c : Int) := by omega
         by_cases hck : c < K
         ·
          have hcn : (c : Int) < (K : Int) := by omega
          obtain ⟨r0, r1⟩ := HCB.out.cells (i := i) (k := c) (by omega) (by omega) hck
          have HSL : Hid (StAt wr wr.heap.size LA (theG rs).1) := HST.out.up HCB.out.bb
          obtain ⟨lb, hlb, hlbl, hlc⟩ := HSL.out (by rw [HKE.out]; exact hK2)
          obtain ⟨l0, l1, l2⟩ := hlc c (by rw [HKE.out]; exact hck)
          have hsk : (theG rs).1.getD c St.start = (theG rs).1[c]'(by rw [HKE.out]; exact hck) := stk_at (by rw [HKE.out]; exact hck)
          rw [← hsk] at l2
          have HMS : Hid ((theG rs).1.getD c St.start ∈ (theG rs).1) := by unfold Hid; rw [hsk]; exact List.getElem_mem _
          have hs2 : ((theG rs).1.getD c St.start).fits := ((theG_ok HG.out HFT.out hm.1).1 _ HMS.out).fit hm.2
          have hnd := hs2.2.2
          have HYES : Hid (fB rs B2 i c = true → bitB ((theG rs).1.getD c St.start).need cl = true → RchG rs (bytes s) i) := fun h1 h2 => by
           obtain ⟨ks, h3⟩ := HRN.out.snd _ h1
           exact ⟨ks, _, h3, by rw [HCL.out]; exact h2⟩
          clear hlc hsk l0 l1 hs2 HMS HSL
          subst hlb
          obtain ⟨nd, hnde⟩ : ∃ nd, ((theG rs).1.getD c St.start).need = nd := ⟨_, rfl⟩
          rw [hnde] at l2 hnd HYES
          have HND := Lib.hid hnde
          clear hnde
          obtain ⟨mb, hmb⟩ : ∃ mb, fB rs B2 i c = mb := ⟨_, rfl⟩
          rw [hmb] at r1 HYES
          have HMB := Lib.hid hmb
          clear hmb
          obtain ⟨bb, hbb⟩ : ∃ bb, bitB nd cl = bb := ⟨_, rfl⟩
          have HBT : Hid (∀ W, Calls Try.prog 82 #[.int .u8 nd, .int .i64 cl] W fun e w' => e = .returned (.bool bb) ∧ W = w') := fun W => by
           have h := rBit_any nd cl hnd W
           rw [hbb] at h
           exact h
          rw [hbb] at HYES
          have HBB := Lib.hid hbb
          clear hbb
          by_cases hyes : mb = true ∧ bb = true
          ·
           obtain ⟨rfl, rfl⟩ := hyes
           have HRI := Lib.hid (HYES.out rfl rfl)
           clear HYES
           go_wp2_with (go_at_call 82; refine (HBT.out _).mono ?_; rintro e w' ⟨rfl, rfl⟩)
           go_roundg (K - (c + 1))
           case measure => rw [HGD.out]; omega
           case rel => exact ⟨c + 1, i, hck, rfl, by go_num, rfl, HRI.out, fun i' h1 _ => Nat.le_of_lt h1, fun _ _ _ _ => Nat.le_refl _, HCB.out⟩
          ·
           have HMX2 : Hid (∀ y, y < c + 1 → fB rs B2 i y = true → bitB ((theG rs).1.getD y St.start).need cl = true → i ≤ G2) := fun y hy h1 h2 => by
            by_cases e : y = c
            ·
             subst e
             rw [HMB.out] at h1
             rw [HND.out, HBB.out] at h2
             exact absurd ⟨h1, h2⟩ hyes
            ·
             exact HMX.out y (by omega) h1 h2
           clear HYES HMX
           cases mb with
           | false =>
            go_wp2_with fail
            go_roundg (K - (c + 1))
            case measure => rw [HGD.out]; omega
            case rel => exact ⟨c + 1, G2, hck, rfl, by go_num, rfl, HRG.out, HTP.out, HMX2.out, HCB.out⟩
           | true =>
            have hbf : bb = false := by cases bb with | false => rfl | true => exact absurd ⟨rfl, rfl⟩ hyes
            subst hbf
            go_wp2_with (go_at_call 82; refine (HBT.out _).mono ?_; rintro e w' ⟨rfl, rfl⟩)
            go_roundg (K - (c + 1))
            case measure => rw [HGD.out]; omega
            case rel => exact ⟨c + 1, G2, hck, rfl, by go_num, rfl, HRG.out, HTP.out, HMX2.out, HCB.out⟩
         ·
          obtain rfl : c = K := by omega
          have HTN : Hid (∀ i', i' < i + 1 → RchG rs (bytes s) i' → i' ≤ G2) := fun i' h1 h2 => by
           by_cases e : i' < i
           ·
            exact HTP.out i' e h2
           ·
            obtain rfl : i' = i := by omega
            obtain ⟨ks, u, h3, h4⟩ := h2
            obtain ⟨h5, h6⟩ := rcP_all HG.out HFT.out hm HRN.out ks (0, St.start) (i', u) HRN.out.one (Nat.zero_le _) (List.mem_of_getElem? (theG_first rs)) h3 (Nat.le_refl _)
            obtain ⟨y, hy, he⟩ := List.getElem_of_mem h6
            dsimp only at he
            have hsk := stk_at hy
            refine HMX.out y (by rw [← HKE.out]; exact hy) ?_ ?_
            ·
             unfold fB; rw [hsk, he]; exact h5
            ·
             rw [hsk, he, ← HCL.out]; exact h4
          clear HMX HTP HGD
          go_wp2_with fail
          go_roundg (s.size + 1 - (i + 1))
          case measure => rw [HGK.out]; omega
          case rel => exact ⟨i + 1, G2, B2, by omega, rfl, rfl, by go_num, HCB.out, HRN.out, HRG.out, HTN.out⟩
      | true =>
       rw [if_pos rfl] at HGC
       clear HPR
       go_wp2_with fail
       go_loopg [10, 11] K (fun gd s10 s11 wx => ∃ (c : Nat) (ch : Bool) (B3 : Nat × St → Bool), c ≤ K ∧ gd = K - c ∧ s11 = .int .i64 c ∧ s10 = .bool ch ∧ CoB w1 cg (s.size + 1) K (s.size + 1) g (fB rs B3) wx ∧ RcP rs (bytes s) i B3 ∧ muB (s.size + 1) K (fB rs B3) ≤ muB (s.size + 1) K (fB rs B2) ∧ (ch = true → muB (s.size + 1) K (fB rs B3) < muB (s.size + 1) K (fB rs B2)) ∧ (ch = false → ∀ y, y < c → ∀ r, r < rs.length → PrB rs (bytes s) i B3 y r))
       case atStart => exact ⟨0, false, B2, Nat.zero_le _, rfl, rfl, rfl, HCB.out, HRC.out, Nat.le_refl _, fun h => (by cases h), fun _ y hy => absurd hy (Nat.not_lt_zero _)⟩
       case round =>
        obtain ⟨c, ch, B3, hc, hgd, rfl, rfl, hcb, hrc, hmu, hmt, hpr⟩ := hrel
        clear HCB HRC
        have HCB := Lib.hid hcb
        have HRC := Lib.hid hrc
        have HMU := Lib.hid hmu
        have HMT := Lib.hid hmt
        have HPR := Lib.hid hpr
        have HGD := Lib.hid hgd
        clear hcb hrc hmu hmt hpr hgd
        have hc0 : (0 : Int) ≤ (c : Int) := by omega
        by_cases hck : c < K
        ·
         have hcn : (c : Int) < (K : Int) := by omega
         go_wp2_with fail
         go_loopg [10, 12] rs.length (fun ge s10 s12 wx => ∃ (r : Nat) (ch : Bool) (B4 : Nat × St → Bool), r ≤ rs.length ∧ ge = rs.length - r ∧ s12 = .int .i64 r ∧ s10 = .bool ch ∧ CoB w1 cg (s.size + 1) K (s.size + 1) g (fB rs B4) wx ∧ RcP rs (bytes s) i B4 ∧ muB (s.size + 1) K (fB rs B4) ≤ muB (s.size + 1) K (fB rs B2) ∧ (ch = true → muB (s.size + 1) K (fB rs B4) < muB (s.size + 1) K (fB rs B2)) ∧ (ch = false → (∀ y, y < c → ∀ r, r < rs.length → PrB rs (bytes s) i B4 y r) ∧ ∀ r', r' < r → PrB rs (bytes s) i B4 c r'))
         case atStart => exact ⟨0, ch, B3, Nat.zero_le _, rfl, rfl, rfl, HCB.out, HRC.out, HMU.out, HMT.out, fun h => ⟨HPR.out h, fun _ h => absurd h (Nat.not_lt_zero _)⟩⟩
         case round =>
          obtain ⟨r, ch, B4, hr, hge, rfl, rfl, hcb, hrc, hmu, hmt, hpr⟩ := hrel
          clear HCB HRC HMU HMT HPR
          have HCB := Lib.hid hcb
          have HRC := Lib.hid hrc
          have HMU := Lib.hid hmu
          have HMT := Lib.hid hmt
          have HPR := Lib.hid hpr
          have HGE := Lib.hid hge
          clear hcb hrc hmu hmt hpr hge
          have hr0 : (0 : Int) ≤ (r : Int) := by omega
          have HTW : Hid (Blk wr q 30 #[.int .i64 m, .int .u8 a, .slice A rs.length k]) := HT1.out.keep HCB.out.bb HT1.out.lt
          have t0 := HTW.out.cell 0
          have t1 := HTW.out.cell 1
          have t2 := HTW.out.cell 2
          simp only [List.getElem?_toArray, List.getElem?_cons_zero, List.getElem?_cons_succ] at t0 t1 t2
          obtain ⟨r0, r1⟩ := HCB.out.cells (i := i) (k := c) (by omega) (by omega) hck
          by_cases hrn : r < rs.length
          ·
           have hrn2 : (r : Int) < (rs.length : Int) := by omega
           obtain ⟨mb, hmb⟩ : ∃ mb, fB rs B4 i c = mb := ⟨_, rfl⟩
           rw [hmb] at r1
           have HMB := Lib.hid hmb
           clear hmb
           cases mb with
           | false =>
            go_wp2_with fail
            go_roundg (K - (c + 1))
            case measure => rw [HGD.out]; omega
            case rel => exact ⟨c + 1, ch, B4, hck, rfl, by go_num, rfl, HCB.out, HRC.out, HMU.out, HMT.out, fun h y hy r' hr' => by
             by_cases e : y = c
             ·
              subst e
              intro hb
              rw [HMB.out] at hb
              cases hb
             ·
              exact (HPR.out h).1 y (by omega) r' hr'⟩
           | true =>
            have HRW : Hid (Rules wr wr.heap.size A rs) := HR1.out.up HCB.out.bb
            obtain ⟨b, o, CA, ck, rfl, hb, c0, c1, -⟩ := rules_row HRW.out hrn
            have HSZ := Lib.hid (sound_sizes HG.out (List.getElem_mem hrn))
            have HSL : Hid (StAt wr wr.heap.size LA (theG rs).1) := HST.out.up HCB.out.bb
            obtain ⟨lb, hlb, hlbl, hlc⟩ := HSL.out (by rw [HKE.out]; exact hK2)
            obtain ⟨l0, l1, l2⟩ := hlc c (by rw [HKE.out]; exact hck)
            have hsk : (theG rs).1.getD c St.start = (theG rs).1[c]'(by rw [HKE.out]; exact hck) := stk_at (by rw [HKE.out]; exact hck)
            rw [← hsk] at l0 l1 l2
            have HMS : Hid ((theG rs).1.getD c St.start ∈ (theG rs).1) := by unfold Hid; rw [hsk]; exact List.getElem_mem _
            have HS2 : Hid (((theG rs).1.getD c St.start).fits) := ((theG_ok HG.out HFT.out hm.1).1 _ HMS.out).fit hm.2
            have HED := Lib.hid (edg_at (s := bytes s) (i := i) (st := (theG rs).1.getD c St.start) hrn)
            have HIN : Hid (∀ u, edgR rs (bytes s) (i, (theG rs).1.getD c St.start) (r : Int) = some u → u.1 ≤ s.size ∧ u.2 ∈ (theG rs).1) := fun u he => by
             have h := edgR_in HG.out HFT.out hm (v := (i, (theG rs).1.getD c St.start)) (by show i ≤ (bytes s).length; rw [bytes_len]; exact hlt) HMS.out he
             rw [bytes_len] at h
             exact h.2
            have HSU : Hid (∀ u, edgR rs (bytes s) (i, (theG rs).1.getD c St.start) (r : Int) = some u → RcP rs (bytes s) i (setB B4 u)) := fun u he => HRC.out.set (k := r) HMB.out he
            have HNP : Hid (edgR rs (bytes s) (i, (theG rs).1.getD c St.start) (r : Int) = none → PrB rs (bytes s) i B4 c r) := fun he hb u hu => by rw [he] at hu; cases hu
            have HYP : Hid (∀ u, edgR rs (bytes s) (i, (theG rs).1.getD c St.start) (r : Int) = some u → B4 u = true → PrB rs (bytes s) i B4 c r) := fun u he hb _ u' hu => by rw [he] at hu; cases hu; exact hb
            have HPN : Hid (PrB rs (bytes s) i B4 c r → ch = false → (∀ y, y < c → ∀ r, r < rs.length → PrB rs (bytes s) i B4 y r) ∧ ∀ r', r' < r + 1 → PrB rs (bytes s) i B4 c r') := fun hp h => ⟨(HPR.out h).1, fun r' hr' => by
             by_cases e : r' = r
             ·
              subst e; exact hp
             ·
              exact (HPR.out h).2 r' (by omega)⟩
            clear hlc hsk HPR HRW
            subst hlb
            generalize (theG rs).1.getD c St.start = st at *
            obtain ⟨⟨⟨ta, tb, tc⟩, okb⟩, hsr⟩ : ∃ z, stepS rs st (r : Int) = z := ⟨_, rfl⟩
            rw [hsr] at HED
            have HSTP : Hid (∀ W : World, Below wr.heap.size wr W → Calls Try.prog 62 #[.agg #[.int .i64 m, .int .u8 a, .slice (some ⟨b, o, none⟩) rs.length k], .agg #[.int .i64 st.mode, .int .i64 st.last, .int .u8 st.need], .int .i64 r] W fun e w' => e = .returned (.tuple #[.agg #[.int .i64 ta, .int .i64 tb, .int .u8 tc], .bool okb]) ∧ Below W.heap.size W w') := fun W hb => by
             have h := rStep_any m a (some ⟨b, o, none⟩) rs.length k rs st r rfl HS2.out (by omega) W (HR1.out.up (below_next HCB.out.bb hb))
             rw [hsr] at h
             exact h
            clear hsr HS2 HMS
            obtain ⟨sa, sb, sc⟩ := st
            dsimp only at l0 l1 l2 HSTP
            generalize rs[r] = x at *
            have hql := HTW.out.lt
            have hrc0 : (0 : Int) ≤ (r : Int) := by omega
            go_upto_region 20 with fail
            refine wp_region_mid2 12 0 (by kernel_rfl) (fun y => (.agg #[.int .i64 m, .int .u8 a, .slice (some ⟨b, o, none⟩) rs.length k]) :: (.string s) :: (.pointer (some ⟨q, 0, none⟩)) :: undef :: (.int .i64 0) :: (.slice (some ⟨lb, 0, none⟩) K lk) :: (.slice (some ⟨cg, 0, none⟩) (s.size + 1) (s.size + 1)) :: (.int .i64 ↑G) :: (.int .i64 (↑s.size + 1)) :: (.int .i64 ↑i) :: (.bool ch) :: (.int .i64 ↑c) :: (.int .i64 ↑r) :: y 10 :: u14 :: u15 :: u16 :: u17 :: (.agg #[.int .i64 m, .int .u8 a, .slice (some ⟨b, o, none⟩) rs.length k]) :: (.slice (some ⟨lb, 0, none⟩) K lk) :: (.string s) :: (.int .i64 ↑s.size) :: (.int .i64 (↑s.size + 1)) :: (.slice (some ⟨cg, 0, none⟩) (s.size + 1) (s.size + 1)) :: (.int .i64 (↑s.size + 1)) :: (.string s) :: (.int .i64 ↑s.size) :: (.bool false) :: u28 :: u29 :: u30 :: u31 :: u32 :: u33 :: u34 :: u35 :: (.slice (some ⟨cg, 0, none⟩) (s.size + 1) (s.size + 1)) :: (.pointer (some ⟨cg, 0, none⟩)) :: (.slice (some ⟨g 0, 0, none⟩) K K) :: (.pointer (some ⟨g 0, 0, none⟩)) :: (.int .i64 ↑i) :: (.string s) :: (.int .i64 ↑s.size) :: (.bool true) :: u44 :: u45 :: (.bool true) :: (.int .i64 ↑c) :: (.slice (some ⟨lb, 0, none⟩) K lk) :: (.int .i64 ↑K) :: (.bool true) :: u51 :: u52 :: (.int .i64 ↑r) :: (.pointer (some ⟨q, 2, none⟩)) :: (.slice (some ⟨b, o, none⟩) rs.length k) :: (.int .i64 ↑rs.length) :: (.bool true) :: (.bool true) :: (.slice (some ⟨cg, 0, none⟩) (s.size + 1) (s.size + 1)) :: (.int .i64 ↑i) :: (.pointer (some ⟨cg, i, none⟩)) :: (.slice (some ⟨g i, 0, none⟩) K K) :: (.int .i64 ↑c) :: (.pointer (some ⟨g i, c, none⟩)) :: (.bool true) :: (.bool true) :: u67 :: u68 :: y 7 :: y 0 :: y 1 :: y 2 :: y 3 :: y 4 :: y 5 :: y 6 :: y 8 :: y 9 :: u79 :: u80 :: u81 :: u82 :: u83 :: u84 :: u85 :: u86 :: u87 :: u88 :: u89 :: u90 :: u91 :: u92 :: u93 :: u94 :: u95 :: u96 :: u97 :: u98 :: u99 :: u100 :: u101 :: u102 :: u103 :: u104 :: u105 :: u106 :: u107 :: u108 :: u109 :: u110 :: u111 :: u112 :: u113 :: u114 :: u115 :: u116 :: u117 :: u118 :: u119 :: u120 :: u121 :: u122 :: u123 :: u124 :: u125 :: u126 :: u127 :: u128 :: u129 :: u130 :: u131 :: u132 :: u133 :: u134 :: u135 :: u136 :: u137 :: u138 :: u139 :: u140 :: u141 :: u142 :: u143 :: u144 :: u145 :: u146 :: u147 :: u148 :: u149 :: u150 :: undef :: []) (stG wr (⟨ta, tb, tc⟩ : St) 10 11) (phiG wr [(.agg #[.int .i64 m, .int .u8 a, .slice (some ⟨b, o, none⟩) rs.length k]), (.slice (some ⟨lb, 0, none⟩) K lk), (.int .i64 c), (.pointer (some ⟨lb, c * 3, none⟩)), (.agg #[.int .i64 sa, .int .i64 sb, .int .u8 sc]), (.int .i64 r), (.tuple #[.agg #[.int .i64 ta, .int .i64 tb, .int .u8 tc], .bool okb]), (.tuple #[.agg #[.int .i64 ta, .int .i64 tb, .int .u8 tc], .bool okb]), (.agg #[.int .i64 ta, .int .i64 tb, .int .u8 tc]), (.bool okb), undef] 10) (fun i => match i with | 0 => u70 | 1 => u71 | 2 => u72 | 3 => u73 | 4 => u74 | 5 => u75 | 6 => u76 | 7 => u69 | 8 => u77 | 9 => u78 | 10 => u13 | _ => undef)
             (by kernel_rfl) (by kernel_rfl) (by kernel_rfl) (by kernel_rfl) ?_ [0, 1, 2, 3, 4, 5, 6, 7, 8, 9, 10, 11] (by kernel_rfl) ?_ ?_
            ·
             exact ⟨(Below.refl _ _).drew, fun h => by cases h⟩
            ·
             refine allCons ?_ (allCons ?_ (allCons ?_ (allCons ?_ (allCons ?_ (allCons ?_ (allCons ?_ (allCons ?_ (allCons ?_ (allCons ?_ (allCons ?_ (allCons ?_ (allNil))))))))))))
             all_goals intro bl y w10 K3 hbi hS hd hK3
             ·
              have q0 := (hS.1.cell (p := ⟨q, 0, none⟩) hql).trans t0
              have q1 := (hS.1.cell (p := ⟨q, 1, none⟩) hql).trans t1
              have q2 := (hS.1.cell (p := ⟨q, 2, none⟩) hql).trans t2
              refine wpOp_step rfl (fun K2 hK2 => ?_)
              go_simp
              exact hK2 _ _ (hK3 _ _ (stG_same hS (by decide) (Below.refl _ _)) rfl (fun _ _ h => h))
             ·
              refine wpOp_step rfl (fun K2 hK2 => ?_)
              go_simp
              exact hK2 _ _ (hK3 _ _ (stG_same hS (by decide) (Below.refl _ _)) rfl (fun _ _ h => h))
             ·
              refine wpOp_step rfl (fun K2 hK2 => ?_)
              go_simp
              exact hK2 _ _ (hK3 _ _ (stG_same hS (by decide) (Below.refl _ _)) rfl (fun _ _ h => h))
             ·
              have e1 : y 1 = _ := (hd 1 rfl).2
              have e2 : y 2 = _ := (hd 2 rfl).2
              obtain ⟨y, rfl⟩ := upd_at (y := y) (i := 1) e1
              obtain ⟨y, rfl⟩ := upd_at (y := y) (i := 2) e2
              dsimp [upd]
              refine wpOp_step rfl (fun K2 hK2 => ?_)
              go_simp
              exact hK2 _ _ (hK3 _ _ (stG_same hS (by decide) (Below.refl _ _)) rfl (fun _ _ h => h))
             ·
              have e3 : y 3 = _ := (hd 3 rfl).2
              obtain ⟨y, rfl⟩ := upd_at (y := y) (i := 3) e3
              dsimp [upd]
              have q3 := (hS.1.cell (p := ⟨lb, c * 3, none⟩) hlbl).trans l0
              have q4 := (hS.1.cell (p := ⟨lb, c * 3 + 1, none⟩) hlbl).trans l1
              have q5 := (hS.1.cell (p := ⟨lb, c * 3 + 2, none⟩) hlbl).trans l2
              refine wpOp_step rfl (fun K2 hK2 => ?_)
              go_simp
              exact hK2 _ _ (hK3 _ _ (stG_same hS (by decide) (Below.refl _ _)) rfl (fun _ _ h => h))
             ·
              refine wpOp_step rfl (fun K2 hK2 => ?_)
              go_simp
              exact hK2 _ _ (hK3 _ _ (stG_same hS (by decide) (Below.refl _ _)) rfl (fun _ _ h => h))
             ·
              have e0 : y 0 = _ := (hd 0 rfl).2
              have e4 : y 4 = _ := (hd 4 rfl).2
              have e5 : y 5 = _ := (hd 5 rfl).2
              obtain ⟨y, rfl⟩ := upd_at (y := y) (i := 0) e0
              obtain ⟨y, rfl⟩ := upd_at (y := y) (i := 4) e4
              obtain ⟨y, rfl⟩ := upd_at (y := y) (i := 5) e5
              dsimp [upd]
              refine wpOp_step rfl (fun K2 hK2 => ?_)
              go_simp
              refine (HSTP.out w10 hS.1).mono ?_
              rintro e' w2 ⟨rfl, hb⟩
              exact hK2 _ _ (hK3 _ _ (stG_same hS (by decide) hb) rfl (fun _ _ h => phiG_below hb h))
             ·
              have e6 : y 6 = _ := (hd 6 rfl).2
              obtain ⟨y, rfl⟩ := upd_at (y := y) (i := 6) e6
              dsimp [upd]
              refine wpOp_step rfl (fun K2 hK2 => ?_)
              go_simp
              exact hK2 _ _ (hK3 _ _ (stG_same hS (by decide) (Below.refl _ _)) rfl (fun _ _ h => h))
             ·
              have e7 : y 7 = _ := (hd 7 rfl).2
              obtain ⟨y, rfl⟩ := upd_at (y := y) (i := 7) e7
              dsimp [upd]
              refine wpOp_step rfl (fun K2 hK2 => ?_)
              go_simp
              exact hK2 _ _ (hK3 _ _ (stG_same hS (by decide) (Below.refl _ _)) rfl (fun _ _ h => h))
             ·
              have e7 : y 7 = _ := (hd 7 rfl).2
              obtain ⟨y, rfl⟩ := upd_at (y := y) (i := 7) e7
              dsimp [upd]
              refine wpOp_step rfl (fun K2 hK2 => ?_)
              go_simp
              exact hK2 _ _ (hK3 _ _ (stG_same hS (by decide) (Below.refl _ _)) rfl (fun _ _ h => h))
             ·
              refine wpOp_step rfl (fun K2 hK2 => ?_)
              go_simp
              exact hK2 _ _ (hK3 _ _ (stG_alloc hS (by decide) hbi _) ⟨_, rfl, hS.1.size, _, _, _, Blk.new _ _ _⟩ (fun _ _ h => phiG_below (below_box _ _ _) h))
             ·
              have e8 : y 8 = .agg #[.int .i64 (⟨ta, tb, tc⟩ : St).mode, .int .i64 (⟨ta, tb, tc⟩ : St).last, .int .u8 (⟨ta, tb, tc⟩ : St).need] := (hd 8 rfl).2
              obtain ⟨hb10, g, e10, hg, za, zb, zc, hB⟩ := hd 10 rfl
              have hS2 := stG_store (v := undef) hS (by decide) hb10 e10 hg hB
              obtain ⟨y, rfl⟩ := upd_at (y := y) (i := 8) e8
              obtain ⟨y, rfl⟩ := upd_at (y := y) (i := 10) e10
              dsimp [upd]
              have d0 := hB.cell 0
              have d1 := hB.cell 1
              have d2 := hB.cell 2
              have f0 := hB.free 0
              have f1 := hB.free 1
              have f2 := hB.free 2
              simp only [List.getElem?_toArray, List.getElem?_cons_zero, List.getElem?_cons_succ] at d0 d1 d2
              refine wpOp_step rfl (fun K2 hK2 => ?_)
              go_simp
              exact hK2 _ _ (hK3 undef _ hS2 trivial (fun _ _ hφ => phiG_store hφ))
            ·
             intro bl y w10 f hall hS hd
             obtain ⟨_, g10, e10, hg10, hB10⟩ := hS.2 (hall 11 (by decide))
             have hb10 := hS.1
             have e9 : y 9 = _ := hd 9 (by decide)
             clear hd
             obtain ⟨y, rfl⟩ := upd_at (y := y) (i := 9) e9
             obtain ⟨y, rfl⟩ := upd_at (y := y) (i := 10) e10
             dsimp [upd]
             refine wpAny_one (i := 12) (by kernel_rfl) ?_
             refine wpOp_step rfl (fun K2 hK2 => ?_)
             go_simp
             refine hK2 _ _ ?_
             clear hK2 K2 e9 e10
             refine wpAny_done (by kernel_rfl) ?_ _
             have HD10 := Lib.hid hB10
             have HC10 := Lib.hid (HCB.out.next hb10)
             have HBW := Lib.hid hb10
             have t2' := (hb10.cell (p := ⟨q, 2, none⟩) hql).trans t2
             have x0 := (hb10.cell (p := ⟨b, o + r * 6, none⟩) hb).trans c0
             have hb5 : b < w10.heap.size := by have := hb10.size; omega
             have hq5 : q < w10.heap.size := by have := hb10.size; omega
             have hx4 := HSZ.out.1
             have HIXW : Hid (∀ (u : St) (kk : Nat), idxI (theG rs).1 u = kk → ∀ W' : World, Below w10.heap.size w10 W' → Calls Try.prog 63 #[.slice (some ⟨lb, 0, none⟩) K lk, u.val] W' fun e w' => e = .returned (.int .i64 kk) ∧ Below W'.heap.size W' w') := fun u kk hkk W' hbw => by
              have h := index_st (some ⟨lb, 0, none⟩) K lk (theG rs).1 u W' HKE.out (HST.out.up (below_next HCB.out.bb (below_next hb10 hbw))) (by omega)
              rw [hkk] at h
              exact h
             obtain ⟨yo, rfl⟩ : ∃ yo : Nat → Value, yo = y := ⟨_, rfl⟩
             clear hb10 hB10 hg10 hS hall t0 t1 t2 l0 l1 l2 r0 r1 hb c0 c1 hql hlbl HSTP HCB HTW
             obtain ⟨W5, rfl⟩ : ∃ W5 : World, W5 = w10 := ⟨_, rfl⟩
             have t2 := t2'
             clear t2'
             obtain ⟨d, rfl⟩ : ∃ d, d = g10 := ⟨_, rfl⟩
             have d0 := HD10.out.cell 0
             have d1 := HD10.out.cell 1
             have d2 := HD10.out.cell 2
             simp only [List.getElem?_toArray, List.getElem?_cons_zero, List.getElem?_cons_succ] at d0 d1 d2
             have hd5 := HD10.out.lt
             obtain ⟨tp, htpE⟩ : ∃ tp, i + x.p.size = tp := ⟨_, rfl⟩
             have htpi : (i : Int) + (x.p.size : Int) = (tp : Int) := by omega
             have hwr : IntKind.i64.wrap (tp : Int) = (tp : Int) := IntWalk.i64_in _ (by omega)
             have HTP2 := Lib.hid htpE
             clear htpE
             go_upto_region 22 with fail
             cases okb with
             | false =>
              have HPP := Lib.hid (HPN.out (HNP.out (by rw [HED.out, if_neg (fun h => Bool.false_ne_true h.1)])))
              refine wp_region_head 23 0 (by kernel_rfl) (fun y => (.agg #[.int .i64 m, .int .u8 a, .slice (some ⟨b, o, none⟩) rs.length k]) :: (.string s) :: (.pointer (some ⟨q, 0, none⟩)) :: undef :: (.int .i64 0) :: (.slice (some ⟨lb, 0, none⟩) K lk) :: (.slice (some ⟨cg, 0, none⟩) (s.size + 1) (s.size + 1)) :: (.int .i64 ↑G) :: (.int .i64 (↑s.size + 1)) :: (.int .i64 ↑i) :: (.bool ch) :: (.int .i64 ↑c) :: (.int .i64 ↑r) :: (.pointer (some ⟨d, 0, none⟩)) :: (.bool false) :: (.int .i64 ↑tp) :: u16 :: u17 :: (.agg #[.int .i64 m, .int .u8 a, .slice (some ⟨b, o, none⟩) rs.length k]) :: (.slice (some ⟨lb, 0, none⟩) K lk) :: (.string s) :: (.int .i64 ↑s.size) :: (.int .i64 (↑s.size + 1)) :: (.slice (some ⟨cg, 0, none⟩) (s.size + 1) (s.size + 1)) :: (.int .i64 (↑s.size + 1)) :: (.string s) :: (.int .i64 ↑s.size) :: (.bool false) :: u28 :: u29 :: u30 :: u31 :: u32 :: u33 :: u34 :: u35 :: (.slice (some ⟨cg, 0, none⟩) (s.size + 1) (s.size + 1)) :: (.pointer (some ⟨cg, 0, none⟩)) :: (.slice (some ⟨g 0, 0, none⟩) K K) :: (.pointer (some ⟨g 0, 0, none⟩)) :: (.int .i64 ↑i) :: (.string s) :: (.int .i64 ↑s.size) :: (.bool true) :: u44 :: u45 :: (.bool true) :: (.int .i64 ↑c) :: (.slice (some ⟨lb, 0, none⟩) K lk) :: (.int .i64 ↑K) :: (.bool true) :: u51 :: u52 :: (.int .i64 ↑r) :: (.pointer (some ⟨q, 2, none⟩)) :: (.slice (some ⟨b, o, none⟩) rs.length k) :: (.int .i64 ↑rs.length) :: (.bool true) :: (.bool true) :: (.slice (some ⟨cg, 0, none⟩) (s.size + 1) (s.size + 1)) :: (.int .i64 ↑i) :: (.pointer (some ⟨cg, i, none⟩)) :: (.slice (some ⟨g i, 0, none⟩) K K) :: (.int .i64 ↑c) :: (.pointer (some ⟨g i, c, none⟩)) :: (.bool true) :: (.bool true) :: u67 :: u68 :: (yo 7) :: (yo 0) :: (yo 1) :: (yo 2) :: (yo 3) :: (yo 4) :: (yo 5) :: (yo 6) :: (yo 8) :: (.bool false) :: (.int .i64 ↑i) :: (.pointer (some ⟨q, 2, none⟩)) :: (.slice (some ⟨b, o, none⟩) rs.length k) :: (.int .i64 ↑r) :: (.pointer (some ⟨b, o + r * 6, none⟩)) :: (.pointer (some ⟨b, o + r * 6, none⟩)) :: (.string x.p) :: (.int .i64 ↑x.p.size) :: (.int .i64 ↑tp) :: y 0 :: y 1 :: y 2 :: y 3 :: y 4 :: y 5 :: y 6 :: y 7 :: y 8 :: y 9 :: y 10 :: y 11 :: y 12 :: y 13 :: y 14 :: y 15 :: y 16 :: y 17 :: y 18 :: y 19 :: y 20 :: y 21 :: y 22 :: u111 :: u112 :: u113 :: u114 :: u115 :: u116 :: u117 :: u118 :: u119 :: u120 :: u121 :: u122 :: u123 :: u124 :: u125 :: u126 :: u127 :: u128 :: u129 :: u130 :: u131 :: u132 :: u133 :: u134 :: u135 :: u136 :: u137 :: u138 :: u139 :: u140 :: u141 :: u142 :: u143 :: u144 :: u145 :: u146 :: u147 :: u148 :: u149 :: u150 :: undef :: [])
               (fun _ w' => Below W5.heap.size W5 w') (phiP [pv (.bool false), pv (.bool false), pv (undef), pv (undef), pv (undef), pv (undef), pv (undef), pv (undef), pv (undef), pv (undef), pv (undef), pv (.bool false), pv (.bool false), pv (undef), pv (undef), pv (undef), pv (undef), pv (undef), pv (undef), pv (undef), pv (undef), pv (undef), pv (undef)]) (fun i => match i with | 0 => u88 | 1 => u89 | 2 => u90 | 3 => u91 | 4 => u92 | 5 => u93 | 6 => u94 | 7 => u95 | 8 => u96 | 9 => u97 | 10 => u98 | 11 => u99 | 12 => u100 | 13 => u101 | 14 => u102 | 15 => u103 | 16 => u104 | 17 => u105 | 18 => u106 | 19 => u107 | 20 => u108 | 21 => u109 | 22 => u110 | _ => undef)
               (by kernel_rfl) (by kernel_rfl) (by kernel_rfl) (by kernel_rfl) (fun i v wa wb h hb => phiP_keep (stay_cons (pv_st) (stay_cons (pv_st) (stay_cons (pv_st) (stay_cons (pv_st) (stay_cons (pv_st) (stay_cons (pv_st) (stay_cons (pv_st) (stay_cons (pv_st) (stay_cons (pv_st) (stay_cons (pv_st) (stay_cons (pv_st) (stay_cons (pv_st) (stay_cons (pv_st) (stay_cons (pv_st) (stay_cons (pv_st) (stay_cons (pv_st) (stay_cons (pv_st) (stay_cons (pv_st) (stay_cons (pv_st) (stay_cons (pv_st) (stay_cons (pv_st) (stay_cons (pv_st) (stay_cons (pv_st) stay_nil))))))))))))))))))))))) h hb) (Below.refl _ _).drew [0, 1, 2, 3, 4, 5, 6, 7, 8, 9, 10, 11, 12, 13, 14, 15, 16, 17, 18, 19, 20, 21, 22] (by kernel_rfl) ?_ ?_
              ·
               refine allCons ?_ (allCons ?_ (allCons ?_ (allCons ?_ (allCons ?_ (allCons ?_ (allCons ?_ (allCons ?_ (allCons ?_ (allCons ?_ (allCons ?_ (allCons ?_ (allCons ?_ (allCons ?_ (allCons ?_ (allCons ?_ (allCons ?_ (allCons ?_ (allCons ?_ (allCons ?_ (allCons ?_ (allCons ?_ (allCons ?_ (allNil)))))))))))))))))))))))
               all_goals intro y w10 K hS hd hK
               ·
                refine wpOp_step rfl (fun K2 hK2 => ?_)
                go_simp
                exact hK2 _ _ (hK _ _ hS rfl (Below.refl _ _))
               ·
                have e0 : y 0 = _ := hd 0 rfl
                obtain ⟨y, rfl⟩ := upd_at (y := y) (i := 0) e0
                dsimp [upd]
                refine wpOp_step rfl (fun K2 hK2 => ?_)
                go_simp
                exact hK2 _ _ (hK _ _ hS rfl (Below.refl _ _))
               ·
                have e1 : y 1 = _ := hd 1 rfl
                obtain ⟨y, rfl⟩ := upd_at (y := y) (i := 1) e1
                dsimp [upd]
                refine wpOp_step rfl (fun K2 hK2 => ?_)
                go_simp
                exact hK2 _ _ (hK _ _ hS rfl (Below.refl _ _))
               ·
                have e1 : y 1 = _ := hd 1 rfl
                obtain ⟨y, rfl⟩ := upd_at (y := y) (i := 1) e1
                dsimp [upd]
                refine wpOp_step rfl (fun K2 hK2 => ?_)
                go_simp
                exact hK2 _ _ (hK _ _ hS rfl (Below.refl _ _))
               ·
                have e1 : y 1 = _ := hd 1 rfl
                obtain ⟨y, rfl⟩ := upd_at (y := y) (i := 1) e1
                dsimp [upd]
                refine wpOp_step rfl (fun K2 hK2 => ?_)
                go_simp
                exact hK2 _ _ (hK _ _ hS rfl (Below.refl _ _))
               ·
                have e1 : y 1 = _ := hd 1 rfl
                obtain ⟨y, rfl⟩ := upd_at (y := y) (i := 1) e1
                dsimp [upd]
                refine wpOp_step rfl (fun K2 hK2 => ?_)
                go_simp
                exact hK2 _ _ (hK _ _ hS rfl (Below.refl _ _))
               ·
                have e1 : y 1 = _ := hd 1 rfl
                obtain ⟨y, rfl⟩ := upd_at (y := y) (i := 1) e1
                dsimp [upd]
                refine wpOp_step rfl (fun K2 hK2 => ?_)
                go_simp
                exact hK2 _ _ (hK _ _ hS rfl (Below.refl _ _))
               ·
                have e1 : y 1 = _ := hd 1 rfl
                obtain ⟨y, rfl⟩ := upd_at (y := y) (i := 1) e1
                dsimp [upd]
                refine wpOp_step rfl (fun K2 hK2 => ?_)
                go_simp
                exact hK2 _ _ (hK _ _ hS rfl (Below.refl _ _))
               ·
                have e1 : y 1 = _ := hd 1 rfl
                obtain ⟨y, rfl⟩ := upd_at (y := y) (i := 1) e1
                dsimp [upd]
                refine wpOp_step rfl (fun K2 hK2 => ?_)
                go_simp
                exact hK2 _ _ (hK _ _ hS rfl (Below.refl _ _))
               ·
                have e1 : y 1 = _ := hd 1 rfl
                obtain ⟨y, rfl⟩ := upd_at (y := y) (i := 1) e1
                dsimp [upd]
                refine wpOp_step rfl (fun K2 hK2 => ?_)
                go_simp
                exact hK2 _ _ (hK _ _ hS rfl (Below.refl _ _))
               ·
                have e1 : y 1 = _ := hd 1 rfl
                obtain ⟨y, rfl⟩ := upd_at (y := y) (i := 1) e1
                dsimp [upd]
                refine wpOp_step rfl (fun K2 hK2 => ?_)
                go_simp
                exact hK2 _ _ (hK _ _ hS rfl (Below.refl _ _))
               ·
                have e1 : y 1 = _ := hd 1 rfl
                obtain ⟨y, rfl⟩ := upd_at (y := y) (i := 1) e1
                dsimp [upd]
                refine wpOp_step rfl (fun K2 hK2 => ?_)
                go_simp
                exact hK2 _ _ (hK _ _ hS rfl (Below.refl _ _))
               ·
                have e11 : y 11 = _ := hd 11 rfl
                obtain ⟨y, rfl⟩ := upd_at (y := y) (i := 11) e11
                dsimp [upd]
                refine wpOp_step rfl (fun K2 hK2 => ?_)
                go_simp
                exact hK2 _ _ (hK _ _ hS rfl (Below.refl _ _))
               ·
                have e12 : y 12 = _ := hd 12 rfl
                obtain ⟨y, rfl⟩ := upd_at (y := y) (i := 12) e12
                dsimp [upd]
                refine wpOp_step rfl (fun K2 hK2 => ?_)
                go_simp
                exact hK2 _ _ (hK _ _ hS rfl (Below.refl _ _))
               ·
                have e12 : y 12 = _ := hd 12 rfl
                obtain ⟨y, rfl⟩ := upd_at (y := y) (i := 12) e12
                dsimp [upd]
                refine wpOp_step rfl (fun K2 hK2 => ?_)
                go_simp
                exact hK2 _ _ (hK _ _ hS rfl (Below.refl _ _))
               ·
                have e12 : y 12 = _ := hd 12 rfl
                obtain ⟨y, rfl⟩ := upd_at (y := y) (i := 12) e12
                dsimp [upd]
                refine wpOp_step rfl (fun K2 hK2 => ?_)
                go_simp
                exact hK2 _ _ (hK _ _ hS rfl (Below.refl _ _))
               ·
                have e12 : y 12 = _ := hd 12 rfl
                obtain ⟨y, rfl⟩ := upd_at (y := y) (i := 12) e12
                dsimp [upd]
                refine wpOp_step rfl (fun K2 hK2 => ?_)
                go_simp
                exact hK2 _ _ (hK _ _ hS rfl (Below.refl _ _))
               ·
                have e12 : y 12 = _ := hd 12 rfl
                obtain ⟨y, rfl⟩ := upd_at (y := y) (i := 12) e12
                dsimp [upd]
                refine wpOp_step rfl (fun K2 hK2 => ?_)
                go_simp
                exact hK2 _ _ (hK _ _ hS rfl (Below.refl _ _))
               ·
                have e12 : y 12 = _ := hd 12 rfl
                obtain ⟨y, rfl⟩ := upd_at (y := y) (i := 12) e12
                dsimp [upd]
                refine wpOp_step rfl (fun K2 hK2 => ?_)
                go_simp
                exact hK2 _ _ (hK _ _ hS rfl (Below.refl _ _))
               ·
                have e12 : y 12 = _ := hd 12 rfl
                obtain ⟨y, rfl⟩ := upd_at (y := y) (i := 12) e12
                dsimp [upd]
                refine wpOp_step rfl (fun K2 hK2 => ?_)
                go_simp
                exact hK2 _ _ (hK _ _ hS rfl (Below.refl _ _))
               ·
                have e12 : y 12 = _ := hd 12 rfl
                obtain ⟨y, rfl⟩ := upd_at (y := y) (i := 12) e12
                dsimp [upd]
                refine wpOp_step rfl (fun K2 hK2 => ?_)
                go_simp
                exact hK2 _ _ (hK _ _ hS rfl (Below.refl _ _))
               ·
                have e12 : y 12 = _ := hd 12 rfl
                obtain ⟨y, rfl⟩ := upd_at (y := y) (i := 12) e12
                dsimp [upd]
                refine wpOp_step rfl (fun K2 hK2 => ?_)
                go_simp
                exact hK2 _ _ (hK _ _ hS rfl (Below.refl _ _))
               ·
                have e12 : y 12 = _ := hd 12 rfl
                obtain ⟨y, rfl⟩ := upd_at (y := y) (i := 12) e12
                dsimp [upd]
                refine wpOp_step rfl (fun K2 hK2 => ?_)
                go_simp
                exact hK2 _ _ (hK _ _ hS rfl (Below.refl _ _))
              ·
               intro y w10 f hS hd
               have e12 : y 12 = _ := hd 12 (by decide)
               clear hd
               obtain ⟨y, rfl⟩ := upd_at (y := y) (i := 12) e12
               dsimp [upd]
               refine wpAny_one (i := 23) (by kernel_rfl) ?_
               refine wpOp_step rfl (fun K2 hK2 => ?_)
               go_simp
               refine hK2 _ _ ?_
               clear hK2 K2 e12
               refine wpAny_done (by kernel_rfl) ?_ _
               have HC6 := Lib.hid (HC10.out.next hS)
               clear hS HC10
               go_wp2_with fail
               go_roundg (rs.length - (r + 1))
               case measure => rw [HGE.out]; omega
               case rel => exact ⟨r + 1, ch, B4, hrn, rfl, by go_num, rfl, HC6.out, HRC.out, HMU.out, HMT.out, HPP.out⟩
             | true =>
              obtain ⟨pre, hpre⟩ : ∃ pre, (bytes x.p).isPrefixOf ((bytes s).drop i) = pre := ⟨_, rfl⟩
              have HBG : Hid (∀ W', Below W5.heap.size W5 W' → Calls Try.prog 80 #[.string s, .int .i64 i, .string x.p] W' fun e w' => e = .returned (.bool pre) ∧ Below W'.heap.size W' w') := fun W' _ => by
               have h := begins6_any s x.p i W' hlt (by omega) (by omega)
               rw [hpre] at h
               exact h
              rw [hpre] at HED
              clear hpre
              cases pre with
              | false =>
               have HPP := Lib.hid (HPN.out (HNP.out (by rw [HED.out, if_neg (fun h => Bool.false_ne_true h.2)])))
               refine wp_region_head 23 0 (by kernel_rfl) (fun y => (.agg #[.int .i64 m, .int .u8 a, .slice (some ⟨b, o, none⟩) rs.length k]) :: (.string s) :: (.pointer (some ⟨q, 0, none⟩)) :: undef :: (.int .i64 0) :: (.slice (some ⟨lb, 0, none⟩) K lk) :: (.slice (some ⟨cg, 0, none⟩) (s.size + 1) (s.size + 1)) :: (.int .i64 ↑G) :: (.int .i64 (↑s.size + 1)) :: (.int .i64 ↑i) :: (.bool ch) :: (.int .i64 ↑c) :: (.int .i64 ↑r) :: (.pointer (some ⟨d, 0, none⟩)) :: (.bool true) :: (.int .i64 ↑tp) :: u16 :: u17 :: (.agg #[.int .i64 m, .int .u8 a, .slice (some ⟨b, o, none⟩) rs.length k]) :: (.slice (some ⟨lb, 0, none⟩) K lk) :: (.string s) :: (.int .i64 ↑s.size) :: (.int .i64 (↑s.size + 1)) :: (.slice (some ⟨cg, 0, none⟩) (s.size + 1) (s.size + 1)) :: (.int .i64 (↑s.size + 1)) :: (.string s) :: (.int .i64 ↑s.size) :: (.bool false) :: u28 :: u29 :: u30 :: u31 :: u32 :: u33 :: u34 :: u35 :: (.slice (some ⟨cg, 0, none⟩) (s.size + 1) (s.size + 1)) :: (.pointer (some ⟨cg, 0, none⟩)) :: (.slice (some ⟨g 0, 0, none⟩) K K) :: (.pointer (some ⟨g 0, 0, none⟩)) :: (.int .i64 ↑i) :: (.string s) :: (.int .i64 ↑s.size) :: (.bool true) :: u44 :: u45 :: (.bool true) :: (.int .i64 ↑c) :: (.slice (some ⟨lb, 0, none⟩) K lk) :: (.int .i64 ↑K) :: (.bool true) :: u51 :: u52 :: (.int .i64 ↑r) :: (.pointer (some ⟨q, 2, none⟩)) :: (.slice (some ⟨b, o, none⟩) rs.length k) :: (.int .i64 ↑rs.length) :: (.bool true) :: (.bool true) :: (.slice (some ⟨cg, 0, none⟩) (s.size + 1) (s.size + 1)) :: (.int .i64 ↑i) :: (.pointer (some ⟨cg, i, none⟩)) :: (.slice (some ⟨g i, 0, none⟩) K K) :: (.int .i64 ↑c) :: (.pointer (some ⟨g i, c, none⟩)) :: (.bool true) :: (.bool true) :: u67 :: u68 :: (yo 7) :: (yo 0) :: (yo 1) :: (yo 2) :: (yo 3) :: (yo 4) :: (yo 5) :: (yo 6) :: (yo 8) :: (.bool true) :: (.int .i64 ↑i) :: (.pointer (some ⟨q, 2, none⟩)) :: (.slice (some ⟨b, o, none⟩) rs.length k) :: (.int .i64 ↑r) :: (.pointer (some ⟨b, o + r * 6, none⟩)) :: (.pointer (some ⟨b, o + r * 6, none⟩)) :: (.string x.p) :: (.int .i64 ↑x.p.size) :: (.int .i64 ↑tp) :: y 0 :: y 1 :: y 2 :: y 3 :: y 4 :: y 5 :: y 6 :: y 7 :: y 8 :: y 9 :: y 10 :: y 11 :: y 12 :: y 13 :: y 14 :: y 15 :: y 16 :: y 17 :: y 18 :: y 19 :: y 20 :: y 21 :: y 22 :: u111 :: u112 :: u113 :: u114 :: u115 :: u116 :: u117 :: u118 :: u119 :: u120 :: u121 :: u122 :: u123 :: u124 :: u125 :: u126 :: u127 :: u128 :: u129 :: u130 :: u131 :: u132 :: u133 :: u134 :: u135 :: u136 :: u137 :: u138 :: u139 :: u140 :: u141 :: u142 :: u143 :: u144 :: u145 :: u146 :: u147 :: u148 :: u149 :: u150 :: undef :: [])
                (fun _ w' => Below W5.heap.size W5 w') (phiP [pv (.bool true), pv (.bool true), pv (.string s), pv (.int .i64 i), pv (.pointer (some ⟨q, 2, none⟩)), pv (.slice (some ⟨b, o, none⟩) rs.length k), pv (.int .i64 r), pv (.pointer (some ⟨b, o + r * 6, none⟩)), pv (.pointer (some ⟨b, o + r * 6, none⟩)), pv (.string x.p), pv (.bool false), pv (.bool false), pv (.bool false), pv (undef), pv (undef), pv (undef), pv (undef), pv (undef), pv (undef), pv (undef), pv (undef), pv (undef), pv (undef)]) (fun i => match i with | 0 => u88 | 1 => u89 | 2 => u90 | 3 => u91 | 4 => u92 | 5 => u93 | 6 => u94 | 7 => u95 | 8 => u96 | 9 => u97 | 10 => u98 | 11 => u99 | 12 => u100 | 13 => u101 | 14 => u102 | 15 => u103 | 16 => u104 | 17 => u105 | 18 => u106 | 19 => u107 | 20 => u108 | 21 => u109 | 22 => u110 | _ => undef)
                (by kernel_rfl) (by kernel_rfl) (by kernel_rfl) (by kernel_rfl) (fun i v wa wb h hb => phiP_keep (stay_cons (pv_st) (stay_cons (pv_st) (stay_cons (pv_st) (stay_cons (pv_st) (stay_cons (pv_st) (stay_cons (pv_st) (stay_cons (pv_st) (stay_cons (pv_st) (stay_cons (pv_st) (stay_cons (pv_st) (stay_cons (pv_st) (stay_cons (pv_st) (stay_cons (pv_st) (stay_cons (pv_st) (stay_cons (pv_st) (stay_cons (pv_st) (stay_cons (pv_st) (stay_cons (pv_st) (stay_cons (pv_st) (stay_cons (pv_st) (stay_cons (pv_st) (stay_cons (pv_st) (stay_cons (pv_st) stay_nil))))))))))))))))))))))) h hb) (Below.refl _ _).drew [0, 1, 2, 3, 4, 5, 6, 7, 8, 9, 10, 11, 12, 13, 14, 15, 16, 17, 18, 19, 20, 21, 22] (by kernel_rfl) ?_ ?_
               ·
                refine allCons ?_ (allCons ?_ (allCons ?_ (allCons ?_ (allCons ?_ (allCons ?_ (allCons ?_ (allCons ?_ (allCons ?_ (allCons ?_ (allCons ?_ (allCons ?_ (allCons ?_ (allCons ?_ (allCons ?_ (allCons ?_ (allCons ?_ (allCons ?_ (allCons ?_ (allCons ?_ (allCons ?_ (allCons ?_ (allCons ?_ (allNil)))))))))))))))))))))))
                all_goals intro y w10 K hS hd hK
                ·
                 refine wpOp_step rfl (fun K2 hK2 => ?_)
                 go_simp
                 exact hK2 _ _ (hK _ _ hS rfl (Below.refl _ _))
                ·
                 have e0 : y 0 = _ := hd 0 rfl
                 obtain ⟨y, rfl⟩ := upd_at (y := y) (i := 0) e0
                 dsimp [upd]
                 refine wpOp_step rfl (fun K2 hK2 => ?_)
                 go_simp
                 exact hK2 _ _ (hK _ _ hS rfl (Below.refl _ _))
                ·
                 have e1 : y 1 = _ := hd 1 rfl
                 obtain ⟨y, rfl⟩ := upd_at (y := y) (i := 1) e1
                 dsimp [upd]
                 refine wpOp_step rfl (fun K2 hK2 => ?_)
                 go_simp
                 exact hK2 _ _ (hK _ _ hS rfl (Below.refl _ _))
                ·
                 have e1 : y 1 = _ := hd 1 rfl
                 obtain ⟨y, rfl⟩ := upd_at (y := y) (i := 1) e1
                 dsimp [upd]
                 refine wpOp_step rfl (fun K2 hK2 => ?_)
                 go_simp
                 exact hK2 _ _ (hK _ _ hS rfl (Below.refl _ _))
                ·
                 have e1 : y 1 = _ := hd 1 rfl
                 obtain ⟨y, rfl⟩ := upd_at (y := y) (i := 1) e1
                 dsimp [upd]
                 refine wpOp_step rfl (fun K2 hK2 => ?_)
                 go_simp
                 exact hK2 _ _ (hK _ _ hS rfl (Below.refl _ _))
                ·
                 have e1 : y 1 = _ := hd 1 rfl
                 have e4 : y 4 = _ := hd 4 rfl
                 obtain ⟨y, rfl⟩ := upd_at (y := y) (i := 1) e1
                 obtain ⟨y, rfl⟩ := upd_at (y := y) (i := 4) e4
                 dsimp [upd]
                 have q2 := (hS.cell (p := ⟨q, 2, none⟩) hq5).trans t2
                 refine wpOp_step rfl (fun K2 hK2 => ?_)
                 go_simp
                 exact hK2 _ _ (hK _ _ hS rfl (Below.refl _ _))
                ·
                 have e1 : y 1 = _ := hd 1 rfl
                 obtain ⟨y, rfl⟩ := upd_at (y := y) (i := 1) e1
                 dsimp [upd]
                 refine wpOp_step rfl (fun K2 hK2 => ?_)
                 go_simp
                 exact hK2 _ _ (hK _ _ hS rfl (Below.refl _ _))
                ·
                 have e1 : y 1 = _ := hd 1 rfl
                 have e5 : y 5 = _ := hd 5 rfl
                 have e6 : y 6 = _ := hd 6 rfl
                 obtain ⟨y, rfl⟩ := upd_at (y := y) (i := 1) e1
                 obtain ⟨y, rfl⟩ := upd_at (y := y) (i := 5) e5
                 obtain ⟨y, rfl⟩ := upd_at (y := y) (i := 6) e6
                 dsimp [upd]
                 refine wpOp_step rfl (fun K2 hK2 => ?_)
                 go_simp
                 exact hK2 _ _ (hK _ _ hS rfl (Below.refl _ _))
                ·
                 have e1 : y 1 = _ := hd 1 rfl
                 have e7 : y 7 = _ := hd 7 rfl
                 obtain ⟨y, rfl⟩ := upd_at (y := y) (i := 1) e1
                 obtain ⟨y, rfl⟩ := upd_at (y := y) (i := 7) e7
                 dsimp [upd]
                 refine wpOp_step rfl (fun K2 hK2 => ?_)
                 go_simp
                 exact hK2 _ _ (hK _ _ hS rfl (Below.refl _ _))
                ·
                 have e1 : y 1 = _ := hd 1 rfl
                 have e8 : y 8 = _ := hd 8 rfl
                 obtain ⟨y, rfl⟩ := upd_at (y := y) (i := 1) e1
                 obtain ⟨y, rfl⟩ := upd_at (y := y) (i := 8) e8
                 dsimp [upd]
                 have q3 := (hS.cell (p := ⟨b, o + r * 6, none⟩) hb5).trans x0
                 refine wpOp_step rfl (fun K2 hK2 => ?_)
                 go_simp
                 exact hK2 _ _ (hK _ _ hS rfl (Below.refl _ _))
                ·
                 have e1 : y 1 = _ := hd 1 rfl
                 have e2 : y 2 = _ := hd 2 rfl
                 have e3 : y 3 = _ := hd 3 rfl
                 have e9 : y 9 = _ := hd 9 rfl
                 obtain ⟨y, rfl⟩ := upd_at (y := y) (i := 1) e1
                 obtain ⟨y, rfl⟩ := upd_at (y := y) (i := 2) e2
                 obtain ⟨y, rfl⟩ := upd_at (y := y) (i := 3) e3
                 obtain ⟨y, rfl⟩ := upd_at (y := y) (i := 9) e9
                 dsimp [upd]
                 refine wpOp_step rfl (fun K2 hK2 => ?_)
                 go_simp
                 refine (HBG.out w10 hS).mono ?_
                 rintro e' w2 ⟨rfl, hb2⟩
                 exact hK2 _ _ (hK _ _ (below_next hS hb2) rfl hb2)
                ·
                 have e1 : y 1 = _ := hd 1 rfl
                 have e10 : y 10 = _ := hd 10 rfl
                 obtain ⟨y, rfl⟩ := upd_at (y := y) (i := 1) e1
                 obtain ⟨y, rfl⟩ := upd_at (y := y) (i := 10) e10
                 dsimp [upd]
                 refine wpOp_step rfl (fun K2 hK2 => ?_)
                 go_simp
                 exact hK2 _ _ (hK _ _ hS rfl (Below.refl _ _))
                ·
                 have e11 : y 11 = _ := hd 11 rfl
                 obtain ⟨y, rfl⟩ := upd_at (y := y) (i := 11) e11
                 dsimp [upd]
                 refine wpOp_step rfl (fun K2 hK2 => ?_)
                 go_simp
                 exact hK2 _ _ (hK _ _ hS rfl (Below.refl _ _))
                ·
                 have e12 : y 12 = _ := hd 12 rfl
                 obtain ⟨y, rfl⟩ := upd_at (y := y) (i := 12) e12
                 dsimp [upd]
                 refine wpOp_step rfl (fun K2 hK2 => ?_)
                 go_simp
                 exact hK2 _ _ (hK _ _ hS rfl (Below.refl _ _))
                ·
                 have e12 : y 12 = _ := hd 12 rfl
                 obtain ⟨y, rfl⟩ := upd_at (y := y) (i := 12) e12
                 dsimp [upd]
                 refine wpOp_step rfl (fun K2 hK2 => ?_)
                 go_simp
                 exact hK2 _ _ (hK _ _ hS rfl (Below.refl _ _))
                ·
                 have e12 : y 12 = _ := hd 12 rfl
                 obtain ⟨y, rfl⟩ := upd_at (y := y) (i := 12) e12
                 dsimp [upd]
                 refine wpOp_step rfl (fun K2 hK2 => ?_)
                 go_simp
                 exact hK2 _ _ (hK _ _ hS rfl (Below.refl _ _))
                ·
                 have e12 : y 12 = _ := hd 12 rfl
                 obtain ⟨y, rfl⟩ := upd_at (y := y) (i := 12) e12
                 dsimp [upd]
                 refine wpOp_step rfl (fun K2 hK2 => ?_)
                 go_simp
                 exact hK2 _ _ (hK _ _ hS rfl (Below.refl _ _))
                ·
                 have e12 : y 12 = _ := hd 12 rfl
                 obtain ⟨y, rfl⟩ := upd_at (y := y) (i := 12) e12
                 dsimp [upd]
                 refine wpOp_step rfl (fun K2 hK2 => ?_)
                 go_simp
                 exact hK2 _ _ (hK _ _ hS rfl (Below.refl _ _))
                ·
                 have e12 : y 12 = _ := hd 12 rfl
                 obtain ⟨y, rfl⟩ := upd_at (y := y) (i := 12) e12
                 dsimp [upd]
                 refine wpOp_step rfl (fun K2 hK2 => ?_)
                 go_simp
                 exact hK2 _ _ (hK _ _ hS rfl (Below.refl _ _))
                ·
                 have e12 : y 12 = _ := hd 12 rfl
                 obtain ⟨y, rfl⟩ := upd_at (y := y) (i := 12) e12
                 dsimp [upd]
                 refine wpOp_step rfl (fun K2 hK2 => ?_)
                 go_simp
                 exact hK2 _ _ (hK _ _ hS rfl (Below.refl _ _))
                ·
                 have e12 : y 12 = _ := hd 12 rfl
                 obtain ⟨y, rfl⟩ := upd_at (y := y) (i := 12) e12
                 dsimp [upd]
                 refine wpOp_step rfl (fun K2 hK2 => ?_)
                 go_simp
                 exact hK2 _ _ (hK _ _ hS rfl (Below.refl _ _))
                ·
                 have e12 : y 12 = _ := hd 12 rfl
                 obtain ⟨y, rfl⟩ := upd_at (y := y) (i := 12) e12
                 dsimp [upd]
                 refine wpOp_step rfl (fun K2 hK2 => ?_)
                 go_simp
                 exact hK2 _ _ (hK _ _ hS rfl (Below.refl _ _))
                ·
                 have e12 : y 12 = _ := hd 12 rfl
                 obtain ⟨y, rfl⟩ := upd_at (y := y) (i := 12) e12
                 dsimp [upd]
                 refine wpOp_step rfl (fun K2 hK2 => ?_)
                 go_simp
                 exact hK2 _ _ (hK _ _ hS rfl (Below.refl _ _))
               ·
                intro y w10 f hS hd
                have e12 : y 12 = _ := hd 12 (by decide)
                clear hd
                obtain ⟨y, rfl⟩ := upd_at (y := y) (i := 12) e12
                dsimp [upd]
                refine wpAny_one (i := 23) (by kernel_rfl) ?_
                refine wpOp_step rfl (fun K2 hK2 => ?_)
                go_simp
                refine hK2 _ _ ?_
                clear hK2 K2 e12
                refine wpAny_done (by kernel_rfl) ?_ _
                have HC6 := Lib.hid (HC10.out.next hS)
                clear hS HC10
                go_wp2_with fail
                go_roundg (rs.length - (r + 1))
                case measure => rw [HGE.out]; omega
                case rel => exact ⟨r + 1, ch, B4, hrn, rfl, by go_num, rfl, HC6.out, HRC.out, HMU.out, HMT.out, HPP.out⟩
              | true =>
               have HE : Hid (edgR rs (bytes s) (i, ⟨sa, sb, sc⟩) (r : Int) = some (i + x.p.size, ⟨ta, tb, tc⟩)) := by unfold Hid; rw [HED.out, if_pos ⟨rfl, rfl⟩]
               obtain ⟨htp, hmem⟩ := HIN.out _ HE.out
               dsimp only at htp hmem
               rw [HTP2.out] at htp
               have htp0 : (0 : Int) ≤ (tp : Int) := by omega
               have htp1 : (tp : Int) < (s.size : Int) + 1 := by omega
               obtain ⟨kk, hkk, hkg⟩ := idx_mem hmem
               have hkK : kk < K := by rw [← HKE.out]; exact (List.getElem?_eq_some_iff.1 hkg).1
               have hkk0 : (0 : Int) ≤ (kk : Int) := by omega
               have hkk1 : (kk : Int) < (K : Int) := by omega
               have HIX := Lib.hid (HIXW.out ⟨ta, tb, tc⟩ kk hkk)
               have HFB : Hid (∀ Bx : Nat × St → Bool, fB rs Bx tp kk = Bx (i + x.p.size, ⟨ta, tb, tc⟩)) := fun Bx => by
                unfold fB
                rw [List.getD_eq_getElem?_getD, hkg, Option.getD_some, HTP2.out]
               obtain ⟨r0, r1⟩ := HC10.out.cells (i := tp) (k := kk) (by omega) (by omega) hkK
               rw [HFB.out] at r1
               obtain ⟨bu, hbu⟩ : ∃ bu, B4 (i + x.p.size, ⟨ta, tb, tc⟩) = bu := ⟨_, rfl⟩
               rw [hbu] at r1
               have HBU := Lib.hid hbu
               have hcg5 := HC10.out.co.lt
               have hgt5 := (HC10.out.ro tp (by omega) (by omega)).lt
               obtain ⟨gt, hgtE⟩ : ∃ gt, g tp = gt := ⟨_, rfl⟩
               rw [hgtE] at r0 r1 hgt5
               have HGT := Lib.hid hgtE
               have HKG : Hid ((theG rs).1.getD kk St.start = ⟨ta, tb, tc⟩) := by unfold Hid; rw [List.getD_eq_getElem?_getD, hkg, Option.getD_some]
               clear hbu hkk hkg hmem HIXW HED HNP hgtE
               refine wp_region_head 23 0 (by kernel_rfl) (fun y => (.agg #[.int .i64 m, .int .u8 a, .slice (some ⟨b, o, none⟩) rs.length k]) :: (.string s) :: (.pointer (some ⟨q, 0, none⟩)) :: undef :: (.int .i64 0) :: (.slice (some ⟨lb, 0, none⟩) K lk) :: (.slice (some ⟨cg, 0, none⟩) (s.size + 1) (s.size + 1)) :: (.int .i64 ↑G) :: (.int .i64 (↑s.size + 1)) :: (.int .i64 ↑i) :: (.bool ch) :: (.int .i64 ↑c) :: (.int .i64 ↑r) :: (.pointer (some ⟨d, 0, none⟩)) :: (.bool true) :: (.int .i64 ↑tp) :: u16 :: u17 :: (.agg #[.int .i64 m, .int .u8 a, .slice (some ⟨b, o, none⟩) rs.length k]) :: (.slice (some ⟨lb, 0, none⟩) K lk) :: (.string s) :: (.int .i64 ↑s.size) :: (.int .i64 (↑s.size + 1)) :: (.slice (some ⟨cg, 0, none⟩) (s.size + 1) (s.size + 1)) :: (.int .i64 (↑s.size + 1)) :: (.string s) :: (.int .i64 ↑s.size) :: (.bool false) :: u28 :: u29 :: u30 :: u31 :: u32 :: u33 :: u34 :: u35 :: (.slice (some ⟨cg, 0, none⟩) (s.size + 1) (s.size + 1)) :: (.pointer (some ⟨cg, 0, none⟩)) :: (.slice (some ⟨g 0, 0, none⟩) K K) :: (.pointer (some ⟨g 0, 0, none⟩)) :: (.int .i64 ↑i) :: (.string s) :: (.int .i64 ↑s.size) :: (.bool true) :: u44 :: u45 :: (.bool true) :: (.int .i64 ↑c) :: (.slice (some ⟨lb, 0, none⟩) K lk) :: (.int .i64 ↑K) :: (.bool true) :: u51 :: u52 :: (.int .i64 ↑r) :: (.pointer (some ⟨q, 2, none⟩)) :: (.slice (some ⟨b, o, none⟩) rs.length k) :: (.int .i64 ↑rs.length) :: (.bool true) :: (.bool true) :: (.slice (some ⟨cg, 0, none⟩) (s.size + 1) (s.size + 1)) :: (.int .i64 ↑i) :: (.pointer (some ⟨cg, i, none⟩)) :: (.slice (some ⟨g i, 0, none⟩) K K) :: (.int .i64 ↑c) :: (.pointer (some ⟨g i, c, none⟩)) :: (.bool true) :: (.bool true) :: u67 :: u68 :: (yo 7) :: (yo 0) :: (yo 1) :: (yo 2) :: (yo 3) :: (yo 4) :: (yo 5) :: (yo 6) :: (yo 8) :: (.bool true) :: (.int .i64 ↑i) :: (.pointer (some ⟨q, 2, none⟩)) :: (.slice (some ⟨b, o, none⟩) rs.length k) :: (.int .i64 ↑r) :: (.pointer (some ⟨b, o + r * 6, none⟩)) :: (.pointer (some ⟨b, o + r * 6, none⟩)) :: (.string x.p) :: (.int .i64 ↑x.p.size) :: (.int .i64 ↑tp) :: y 0 :: y 1 :: y 2 :: y 3 :: y 4 :: y 5 :: y 6 :: y 7 :: y 8 :: y 9 :: y 10 :: y 11 :: y 12 :: y 13 :: y 14 :: y 15 :: y 16 :: y 17 :: y 18 :: y 19 :: y 20 :: y 21 :: y 22 :: u111 :: u112 :: u113 :: u114 :: u115 :: u116 :: u117 :: u118 :: u119 :: u120 :: u121 :: u122 :: u123 :: u124 :: u125 :: u126 :: u127 :: u128 :: u129 :: u130 :: u131 :: u132 :: u133 :: u134 :: u135 :: u136 :: u137 :: u138 :: u139 :: u140 :: u141 :: u142 :: u143 :: u144 :: u145 :: u146 :: u147 :: u148 :: u149 :: u150 :: undef :: [])
                (fun _ w' => Below W5.heap.size W5 w') (phiP [pv (.bool true), pv (.bool true), pv (.string s), pv (.int .i64 i), pv (.pointer (some ⟨q, 2, none⟩)), pv (.slice (some ⟨b, o, none⟩) rs.length k), pv (.int .i64 r), pv (.pointer (some ⟨b, o + r * 6, none⟩)), pv (.pointer (some ⟨b, o + r * 6, none⟩)), pv (.string x.p), pv (.bool true), pv (.bool true), pv (.bool true), pv (.slice (some ⟨cg, 0, none⟩) (s.size + 1) (s.size + 1)), pv (.int .i64 tp), pv (.pointer (some ⟨cg, tp, none⟩)), pv (.slice (some ⟨gt, 0, none⟩) K K), pv (.slice (some ⟨lb, 0, none⟩) K lk), pv (.agg #[.int .i64 ta, .int .i64 tb, .int .u8 tc]), pv (.int .i64 kk), pv (.pointer (some ⟨gt, kk, none⟩)), pv (.bool bu), pv (.bool (!bu))]) (fun i => match i with | 0 => u88 | 1 => u89 | 2 => u90 | 3 => u91 | 4 => u92 | 5 => u93 | 6 => u94 | 7 => u95 | 8 => u96 | 9 => u97 | 10 => u98 | 11 => u99 | 12 => u100 | 13 => u101 | 14 => u102 | 15 => u103 | 16 => u104 | 17 => u105 | 18 => u106 | 19 => u107 | 20 => u108 | 21 => u109 | 22 => u110 | _ => undef)
                (by kernel_rfl) (by kernel_rfl) (by kernel_rfl) (by kernel_rfl) (fun i v wa wb h hb => phiP_keep (stay_cons (pv_st) (stay_cons (pv_st) (stay_cons (pv_st) (stay_cons (pv_st) (stay_cons (pv_st) (stay_cons (pv_st) (stay_cons (pv_st) (stay_cons (pv_st) (stay_cons (pv_st) (stay_cons (pv_st) (stay_cons (pv_st) (stay_cons (pv_st) (stay_cons (pv_st) (stay_cons (pv_st) (stay_cons (pv_st) (stay_cons (pv_st) (stay_cons (pv_st) (stay_cons (pv_st) (stay_cons (pv_st) (stay_cons (pv_st) (stay_cons (pv_st) (stay_cons (pv_st) (stay_cons (pv_st) stay_nil))))))))))))))))))))))) h hb) (Below.refl _ _).drew [0, 1, 2, 3, 4, 5, 6, 7, 8, 9, 10, 11, 12, 13, 14, 15, 16, 17, 18, 19, 20, 21, 22] (by kernel_rfl) ?_ ?_
               ·
                refine allCons ?_ (allCons ?_ (allCons ?_ (allCons ?_ (allCons ?_ (allCons ?_ (allCons ?_ (allCons ?_ (allCons ?_ (allCons ?_ (allCons ?_ (allCons ?_ (allCons ?_ (allCons ?_ (allCons ?_ (allCons ?_ (allCons ?_ (allCons ?_ (allCons ?_ (allCons ?_ (allCons ?_ (allCons ?_ (allCons ?_ (allNil)))))))))))))))))))))))
                all_goals intro y w10 K hS hd hK
                ·
                 refine wpOp_step rfl (fun K2 hK2 => ?_)
                 go_simp
                 exact hK2 _ _ (hK _ _ hS rfl (Below.refl _ _))
                ·
                 have e0 : y 0 = _ := hd 0 rfl
                 obtain ⟨y, rfl⟩ := upd_at (y := y) (i := 0) e0
                 dsimp [upd]
                 refine wpOp_step rfl (fun K2 hK2 => ?_)
                 go_simp
                 exact hK2 _ _ (hK _ _ hS rfl (Below.refl _ _))
                ·
                 have e1 : y 1 = _ := hd 1 rfl
                 obtain ⟨y, rfl⟩ := upd_at (y := y) (i := 1) e1
                 dsimp [upd]
                 refine wpOp_step rfl (fun K2 hK2 => ?_)
                 go_simp
                 exact hK2 _ _ (hK _ _ hS rfl (Below.refl _ _))
                ·
                 have e1 : y 1 = _ := hd 1 rfl
                 obtain ⟨y, rfl⟩ := upd_at (y := y) (i := 1) e1
                 dsimp [upd]
                 refine wpOp_step rfl (fun K2 hK2 => ?_)
                 go_simp
                 exact hK2 _ _ (hK _ _ hS rfl (Below.refl _ _))
                ·
                 have e1 : y 1 = _ := hd 1 rfl
                 obtain ⟨y, rfl⟩ := upd_at (y := y) (i := 1) e1
                 dsimp [upd]
                 refine wpOp_step rfl (fun K2 hK2 => ?_)
                 go_simp
                 exact hK2 _ _ (hK _ _ hS rfl (Below.refl _ _))
                ·
                 have e1 : y 1 = _ := hd 1 rfl
                 have e4 : y 4 = _ := hd 4 rfl
                 obtain ⟨y, rfl⟩ := upd_at (y := y) (i := 1) e1
                 obtain ⟨y, rfl⟩ := upd_at (y := y) (i := 4) e4
                 dsimp [upd]
                 have q2 := (hS.cell (p := ⟨q, 2, none⟩) hq5).trans t2
                 refine wpOp_step rfl (fun K2 hK2 => ?_)
                 go_simp
                 exact hK2 _ _ (hK _ _ hS rfl (Below.refl _ _))
                ·
                 have e1 : y 1 = _ := hd 1 rfl
                 obtain ⟨y, rfl⟩ := upd_at (y := y) (i := 1) e1
                 dsimp [upd]
                 refine wpOp_step rfl (fun K2 hK2 => ?_)
                 go_simp
                 exact hK2 _ _ (hK _ _ hS rfl (Below.refl _ _))
                ·
                 have e1 : y 1 = _ := hd 1 rfl
                 have e5 : y 5 = _ := hd 5 rfl
                 have e6 : y 6 = _ := hd 6 rfl
                 obtain ⟨y, rfl⟩ := upd_at (y := y) (i := 1) e1
                 obtain ⟨y, rfl⟩ := upd_at (y := y) (i := 5) e5
                 obtain ⟨y, rfl⟩ := upd_at (y := y) (i := 6) e6
                 dsimp [upd]
                 refine wpOp_step rfl (fun K2 hK2 => ?_)
                 go_simp
                 exact hK2 _ _ (hK _ _ hS rfl (Below.refl _ _))
                ·
                 have e1 : y 1 = _ := hd 1 rfl
                 have e7 : y 7 = _ := hd 7 rfl
                 obtain ⟨y, rfl⟩ := upd_at (y := y) (i := 1) e1
                 obtain ⟨y, rfl⟩ := upd_at (y := y) (i := 7) e7
                 dsimp [upd]
                 refine wpOp_step rfl (fun K2 hK2 => ?_)
                 go_simp
                 exact hK2 _ _ (hK _ _ hS rfl (Below.refl _ _))
                ·
                 have e1 : y 1 = _ := hd 1 rfl
                 have e8 : y 8 = _ := hd 8 rfl
                 obtain ⟨y, rfl⟩ := upd_at (y := y) (i := 1) e1
                 obtain ⟨y, rfl⟩ := upd_at (y := y) (i := 8) e8
                 dsimp [upd]
                 have q3 := (hS.cell (p := ⟨b, o + r * 6, none⟩) hb5).trans x0
                 refine wpOp_step rfl (fun K2 hK2 => ?_)
                 go_simp
                 exact hK2 _ _ (hK _ _ hS rfl (Below.refl _ _))
                ·
                 have e1 : y 1 = _ := hd 1 rfl
                 have e2 : y 2 = _ := hd 2 rfl
                 have e3 : y 3 = _ := hd 3 rfl
                 have e9 : y 9 = _ := hd 9 rfl
                 obtain ⟨y, rfl⟩ := upd_at (y := y) (i := 1) e1
                 obtain ⟨y, rfl⟩ := upd_at (y := y) (i := 2) e2
                 obtain ⟨y, rfl⟩ := upd_at (y := y) (i := 3) e3
                 obtain ⟨y, rfl⟩ := upd_at (y := y) (i := 9) e9
                 dsimp [upd]
                 refine wpOp_step rfl (fun K2 hK2 => ?_)
                 go_simp
                 refine (HBG.out w10 hS).mono ?_
                 rintro e' w2 ⟨rfl, hb2⟩
                 exact hK2 _ _ (hK _ _ (below_next hS hb2) rfl hb2)
                ·
                 have e1 : y 1 = _ := hd 1 rfl
                 have e10 : y 10 = _ := hd 10 rfl
                 obtain ⟨y, rfl⟩ := upd_at (y := y) (i := 1) e1
                 obtain ⟨y, rfl⟩ := upd_at (y := y) (i := 10) e10
                 dsimp [upd]
                 refine wpOp_step rfl (fun K2 hK2 => ?_)
                 go_simp
                 exact hK2 _ _ (hK _ _ hS rfl (Below.refl _ _))
                ·
                 have e11 : y 11 = _ := hd 11 rfl
                 obtain ⟨y, rfl⟩ := upd_at (y := y) (i := 11) e11
                 dsimp [upd]
                 refine wpOp_step rfl (fun K2 hK2 => ?_)
                 go_simp
                 exact hK2 _ _ (hK _ _ hS rfl (Below.refl _ _))
                ·
                 have e12 : y 12 = _ := hd 12 rfl
                 obtain ⟨y, rfl⟩ := upd_at (y := y) (i := 12) e12
                 dsimp [upd]
                 refine wpOp_step rfl (fun K2 hK2 => ?_)
                 go_simp
                 exact hK2 _ _ (hK _ _ hS rfl (Below.refl _ _))
                ·
                 have e12 : y 12 = _ := hd 12 rfl
                 obtain ⟨y, rfl⟩ := upd_at (y := y) (i := 12) e12
                 dsimp [upd]
                 refine wpOp_step rfl (fun K2 hK2 => ?_)
                 go_simp
                 exact hK2 _ _ (hK _ _ hS rfl (Below.refl _ _))
                ·
                 have e12 : y 12 = _ := hd 12 rfl
                 have e13 : y 13 = _ := hd 13 rfl
                 have e14 : y 14 = _ := hd 14 rfl
                 obtain ⟨y, rfl⟩ := upd_at (y := y) (i := 12) e12
                 obtain ⟨y, rfl⟩ := upd_at (y := y) (i := 13) e13
                 obtain ⟨y, rfl⟩ := upd_at (y := y) (i := 14) e14
                 dsimp [upd]
                 refine wpOp_step rfl (fun K2 hK2 => ?_)
                 go_simp
                 exact hK2 _ _ (hK _ _ hS rfl (Below.refl _ _))
                ·
                 have e12 : y 12 = _ := hd 12 rfl
                 have e15 : y 15 = _ := hd 15 rfl
                 obtain ⟨y, rfl⟩ := upd_at (y := y) (i := 12) e12
                 obtain ⟨y, rfl⟩ := upd_at (y := y) (i := 15) e15
                 dsimp [upd]
                 have q4 := (hS.cell (p := ⟨cg, tp, none⟩) hcg5).trans r0
                 refine wpOp_step rfl (fun K2 hK2 => ?_)
                 go_simp
                 exact hK2 _ _ (hK _ _ hS rfl (Below.refl _ _))
                ·
                 have e12 : y 12 = _ := hd 12 rfl
                 obtain ⟨y, rfl⟩ := upd_at (y := y) (i := 12) e12
                 dsimp [upd]
                 refine wpOp_step rfl (fun K2 hK2 => ?_)
                 go_simp
                 exact hK2 _ _ (hK _ _ hS rfl (Below.refl _ _))
                ·
                 have e12 : y 12 = _ := hd 12 rfl
                 obtain ⟨y, rfl⟩ := upd_at (y := y) (i := 12) e12
                 dsimp [upd]
                 have s0 := (hS.cell (p := ⟨d, 0, none⟩) hd5).trans d0
                 have s1 := (hS.cell (p := ⟨d, 1, none⟩) hd5).trans d1
                 have s2 := (hS.cell (p := ⟨d, 2, none⟩) hd5).trans d2
                 refine wpOp_step rfl (fun K2 hK2 => ?_)
                 go_simp
                 exact hK2 _ _ (hK _ _ hS rfl (Below.refl _ _))
                ·
                 have e12 : y 12 = _ := hd 12 rfl
                 have e17 : y 17 = _ := hd 17 rfl
                 have e18 : y 18 = _ := hd 18 rfl
                 obtain ⟨y, rfl⟩ := upd_at (y := y) (i := 12) e12
                 obtain ⟨y, rfl⟩ := upd_at (y := y) (i := 17) e17
                 obtain ⟨y, rfl⟩ := upd_at (y := y) (i := 18) e18
                 dsimp [upd]
                 refine wpOp_step rfl (fun K2 hK2 => ?_)
                 go_simp
                 refine (HIX.out w10 hS).mono ?_
                 rintro e' w2 ⟨rfl, hb2⟩
                 exact hK2 _ _ (hK _ _ (below_next hS hb2) rfl hb2)
                ·
                 have e12 : y 12 = _ := hd 12 rfl
                 have e16 : y 16 = _ := hd 16 rfl
                 have e19 : y 19 = _ := hd 19 rfl
                 obtain ⟨y, rfl⟩ := upd_at (y := y) (i := 12) e12
                 obtain ⟨y, rfl⟩ := upd_at (y := y) (i := 16) e16
                 obtain ⟨y, rfl⟩ := upd_at (y := y) (i := 19) e19
                 dsimp [upd]
                 refine wpOp_step rfl (fun K2 hK2 => ?_)
                 go_simp
                 exact hK2 _ _ (hK _ _ hS rfl (Below.refl _ _))
                ·
                 have e12 : y 12 = _ := hd 12 rfl
                 have e20 : y 20 = _ := hd 20 rfl
                 obtain ⟨y, rfl⟩ := upd_at (y := y) (i := 12) e12
                 obtain ⟨y, rfl⟩ := upd_at (y := y) (i := 20) e20
                 dsimp [upd]
                 have q6 := (hS.cell (p := ⟨gt, kk, none⟩) hgt5).trans r1
                 refine wpOp_step rfl (fun K2 hK2 => ?_)
                 go_simp
                 exact hK2 _ _ (hK _ _ hS rfl (Below.refl _ _))
                ·
                 have e12 : y 12 = _ := hd 12 rfl
                 have e21 : y 21 = _ := hd 21 rfl
                 obtain ⟨y, rfl⟩ := upd_at (y := y) (i := 12) e12
                 obtain ⟨y, rfl⟩ := upd_at (y := y) (i := 21) e21
                 dsimp [upd]
                 refine wpOp_step rfl (fun K2 hK2 => ?_)
                 go_simp
                 exact hK2 _ _ (hK _ _ hS rfl (Below.refl _ _))
               ·
                intro y w10 f hS hd
                have e12 : y 12 = _ := hd 12 (by decide)
                have e22 : y 22 = _ := hd 22 (by decide)
                clear hd
                obtain ⟨y, rfl⟩ := upd_at (y := y) (i := 12) e12
                obtain ⟨y, rfl⟩ := upd_at (y := y) (i := 22) e22
                dsimp [upd]
                refine wpAny_one (i := 23) (by kernel_rfl) ?_
                refine wpOp_step rfl (fun K2 hK2 => ?_)
                go_simp
                refine hK2 _ _ ?_
                clear hK2 K2 e12 e22
                refine wpAny_done (by kernel_rfl) ?_ _
                have HC6 := Lib.hid (HC10.out.next hS)
                cases bu with
                | true =>
                 have HPP := Lib.hid (HPN.out (HYP.out _ HE.out HBU.out))
                 clear hS HC10
                 go_wp2_with fail
                 go_roundg (rs.length - (r + 1))
                 case measure => rw [HGE.out]; omega
                 case rel => exact ⟨r + 1, ch, B4, hrn, rfl, by go_num, rfl, HC6.out, HRC.out, HMU.out, HMT.out, HPP.out⟩
                | false =>
                 obtain ⟨yo2, rfl⟩ : ∃ yo2 : Nat → Value, yo2 = y := ⟨_, rfl⟩
                 have HIX6 : Hid (∀ W' : World, Below w10.heap.size w10 W' → Calls Try.prog 63 #[.slice (some ⟨lb, 0, none⟩) K lk, .agg #[.int .i64 ta, .int .i64 tb, .int .u8 tc]] W' fun e w' => e = .returned (.int .i64 kk) ∧ Below W'.heap.size W' w') := fun W' hbw => HIX.out W' (below_next hS hbw)
                 have HD6 := Lib.hid (HD10.out.keep hS HD10.out.lt)
                 have HRS := Lib.hid (HSU.out _ HE.out)
                 have hmono : ∀ x1 y1, x1 < s.size + 1 → y1 < K → fB rs B4 x1 y1 = true → fB rs (setB B4 (i + x.p.size, ⟨ta, tb, tc⟩)) x1 y1 = true := fun _ _ _ _ h => setB_mono h
                 clear hS HC10 r0 r1 d0 d1 d2 x0 t2 hd5 hb5 hq5 hcg5 hgt5 HD10 HIX HBG
                 obtain ⟨W6, rfl⟩ : ∃ W6 : World, W6 = w10 := ⟨_, rfl⟩
                 obtain ⟨r0, r1⟩ := HC6.out.cells (i := tp) (k := kk) (by omega) (by omega) hkK
                 rw [HFB.out, HBU.out] at r1
                 rw [HGT.out] at r0 r1
                 have hcg6 := HC6.out.co.lt
                 have hgt6 := (HC6.out.ro tp (by omega) (by omega)).lt
                 rw [HGT.out] at hgt6
                 have d0 := HD6.out.cell 0
                 have d1 := HD6.out.cell 1
                 have d2 := HD6.out.cell 2
                 simp only [List.getElem?_toArray, List.getElem?_cons_zero, List.getElem?_cons_succ] at d0 d1 d2
                 have hd6 := HD6.out.lt
                 go_upto_region 23 with fail
                 refine wp_region_head 8 0 (by kernel_rfl) (fun y => (.agg #[.int .i64 m, .int .u8 a, .slice (some ⟨b, o, none⟩) rs.length k]) :: (.string s) :: (.pointer (some ⟨q, 0, none⟩)) :: undef :: (.int .i64 0) :: (.slice (some ⟨lb, 0, none⟩) K lk) :: (.slice (some ⟨cg, 0, none⟩) (s.size + 1) (s.size + 1)) :: (.int .i64 ↑G) :: (.int .i64 (↑s.size + 1)) :: (.int .i64 ↑i) :: (.bool ch) :: (.int .i64 ↑c) :: (.int .i64 ↑r) :: (.pointer (some ⟨d, 0, none⟩)) :: (.bool true) :: (.int .i64 ↑tp) :: u16 :: u17 :: (.agg #[.int .i64 m, .int .u8 a, .slice (some ⟨b, o, none⟩) rs.length k]) :: (.slice (some ⟨lb, 0, none⟩) K lk) :: (.string s) :: (.int .i64 ↑s.size) :: (.int .i64 (↑s.size + 1)) :: (.slice (some ⟨cg, 0, none⟩) (s.size + 1) (s.size + 1)) :: (.int .i64 (↑s.size + 1)) :: (.string s) :: (.int .i64 ↑s.size) :: (.bool false) :: u28 :: u29 :: u30 :: u31 :: u32 :: u33 :: u34 :: u35 :: (.slice (some ⟨cg, 0, none⟩) (s.size + 1) (s.size + 1)) :: (.pointer (some ⟨cg, 0, none⟩)) :: (.slice (some ⟨g 0, 0, none⟩) K K) :: (.pointer (some ⟨g 0, 0, none⟩)) :: (.int .i64 ↑i) :: (.string s) :: (.int .i64 ↑s.size) :: (.bool true) :: u44 :: u45 :: (.bool true) :: (.int .i64 ↑c) :: (.slice (some ⟨lb, 0, none⟩) K lk) :: (.int .i64 ↑K) :: (.bool true) :: u51 :: u52 :: (.int .i64 ↑r) :: (.pointer (some ⟨q, 2, none⟩)) :: (.slice (some ⟨b, o, none⟩) rs.length k) :: (.int .i64 ↑rs.length) :: (.bool true) :: (.bool true) :: (.slice (some ⟨cg, 0, none⟩) (s.size + 1) (s.size + 1)) :: (.int .i64 ↑i) :: (.pointer (some ⟨cg, i, none⟩)) :: (.slice (some ⟨g i, 0, none⟩) K K) :: (.int .i64 ↑c) :: (.pointer (some ⟨g i, c, none⟩)) :: (.bool true) :: (.bool true) :: u67 :: u68 :: (yo 7) :: (yo 0) :: (yo 1) :: (yo 2) :: (yo 3) :: (yo 4) :: (yo 5) :: (yo 6) :: (yo 8) :: (.bool true) :: (.int .i64 ↑i) :: (.pointer (some ⟨q, 2, none⟩)) :: (.slice (some ⟨b, o, none⟩) rs.length k) :: (.int .i64 ↑r) :: (.pointer (some ⟨b, o + r * 6, none⟩)) :: (.pointer (some ⟨b, o + r * 6, none⟩)) :: (.string x.p) :: (.int .i64 ↑x.p.size) :: (.int .i64 ↑tp) :: (yo2 0) :: (yo2 1) :: (yo2 2) :: (yo2 3) :: (yo2 4) :: (yo2 5) :: (yo2 6) :: (yo2 7) :: (yo2 8) :: (yo2 9) :: (yo2 10) :: (yo2 11) :: (.bool true) :: (yo2 13) :: (yo2 14) :: (yo2 15) :: (yo2 16) :: (yo2 17) :: (yo2 18) :: (yo2 19) :: (yo2 20) :: (yo2 21) :: (.bool !false) :: (.bool !false) :: y 0 :: y 1 :: y 2 :: y 3 :: y 4 :: y 5 :: y 6 :: y 7 :: u120 :: u121 :: u122 :: u123 :: u124 :: u125 :: u126 :: u127 :: u128 :: u129 :: u130 :: u131 :: u132 :: u133 :: u134 :: u135 :: u136 :: u137 :: u138 :: u139 :: u140 :: u141 :: u142 :: u143 :: u144 :: u145 :: u146 :: u147 :: u148 :: u149 :: u150 :: undef :: [])
                  (fun _ w' => Below W6.heap.size W6 w') (phiP [pv (.slice (some ⟨cg, 0, none⟩) (s.size + 1) (s.size + 1)), pv (.int .i64 tp), pv (.pointer (some ⟨cg, tp, none⟩)), pv (.slice (some ⟨gt, 0, none⟩) K K), pv (.slice (some ⟨lb, 0, none⟩) K lk), pv (.agg #[.int .i64 ta, .int .i64 tb, .int .u8 tc]), pv (.int .i64 kk), pv (.pointer (some ⟨gt, kk, none⟩))]) (fun i => match i with | 0 => u112 | 1 => u113 | 2 => u114 | 3 => u115 | 4 => u116 | 5 => u117 | 6 => u118 | 7 => u119 | _ => undef)
                  (by kernel_rfl) (by kernel_rfl) (by kernel_rfl) (by kernel_rfl) (fun i v wa wb h hb => phiP_keep (stay_cons (pv_st) (stay_cons (pv_st) (stay_cons (pv_st) (stay_cons (pv_st) (stay_cons (pv_st) (stay_cons (pv_st) (stay_cons (pv_st) (stay_cons (pv_st) stay_nil)))))))) h hb) (Below.refl _ _).drew [0, 1, 2, 3, 4, 5, 6, 7] (by kernel_rfl) ?_ ?_
                 ·
                  refine allCons ?_ (allCons ?_ (allCons ?_ (allCons ?_ (allCons ?_ (allCons ?_ (allCons ?_ (allCons ?_ (allNil))))))))
                  all_goals intro y w10 K hS hd hK
                  ·
                   refine wpOp_step rfl (fun K2 hK2 => ?_)
                   go_simp
                   exact hK2 _ _ (hK _ _ hS rfl (Below.refl _ _))
                  ·
                   refine wpOp_step rfl (fun K2 hK2 => ?_)
                   go_simp
                   exact hK2 _ _ (hK _ _ hS rfl (Below.refl _ _))
                  ·
                   have e0 : y 0 = _ := hd 0 rfl
                   have e1 : y 1 = _ := hd 1 rfl
                   obtain ⟨y, rfl⟩ := upd_at (y := y) (i := 0) e0
                   obtain ⟨y, rfl⟩ := upd_at (y := y) (i := 1) e1
                   dsimp [upd]
                   refine wpOp_step rfl (fun K2 hK2 => ?_)
                   go_simp
                   exact hK2 _ _ (hK _ _ hS rfl (Below.refl _ _))
                  ·
                   have e2 : y 2 = _ := hd 2 rfl
                   obtain ⟨y, rfl⟩ := upd_at (y := y) (i := 2) e2
                   dsimp [upd]
                   have q4 := (hS.cell (p := ⟨cg, tp, none⟩) hcg6).trans r0
                   refine wpOp_step rfl (fun K2 hK2 => ?_)
                   go_simp
                   exact hK2 _ _ (hK _ _ hS rfl (Below.refl _ _))
                  ·
                   refine wpOp_step rfl (fun K2 hK2 => ?_)
                   go_simp
                   exact hK2 _ _ (hK _ _ hS rfl (Below.refl _ _))
                  ·
                   have s0 := (hS.cell (p := ⟨d, 0, none⟩) hd6).trans d0
                   have s1 := (hS.cell (p := ⟨d, 1, none⟩) hd6).trans d1
                   have s2 := (hS.cell (p := ⟨d, 2, none⟩) hd6).trans d2
                   refine wpOp_step rfl (fun K2 hK2 => ?_)
                   go_simp
                   exact hK2 _ _ (hK _ _ hS rfl (Below.refl _ _))
                  ·
                   have e4 : y 4 = _ := hd 4 rfl
                   have e5 : y 5 = _ := hd 5 rfl
                   obtain ⟨y, rfl⟩ := upd_at (y := y) (i := 4) e4
                   obtain ⟨y, rfl⟩ := upd_at (y := y) (i := 5) e5
                   dsimp [upd]
                   refine wpOp_step rfl (fun K2 hK2 => ?_)
                   go_simp
                   refine (HIX6.out w10 hS).mono ?_
                   rintro e' w2 ⟨rfl, hb2⟩
                   exact hK2 _ _ (hK _ _ (below_next hS hb2) rfl hb2)
                  ·
                   have e3 : y 3 = _ := hd 3 rfl
                   have e6 : y 6 = _ := hd 6 rfl
                   obtain ⟨y, rfl⟩ := upd_at (y := y) (i := 3) e3
                   obtain ⟨y, rfl⟩ := upd_at (y := y) (i := 6) e6
                   dsimp [upd]
                   refine wpOp_step rfl (fun K2 hK2 => ?_)
                   go_simp
                   exact hK2 _ _ (hK _ _ hS rfl (Below.refl _ _))
                 ·
                  intro y w10 f hS hd
                  have e7 : y 7 = _ := hd 7 (by decide)
                  clear hd
                  obtain ⟨y, rfl⟩ := upd_at (y := y) (i := 7) e7
                  dsimp [upd]
                  have r1' := (hS.cell (p := ⟨gt, kk, none⟩) hgt6).trans r1
                  have HC7 := Lib.hid (HC6.out.next hS)
                  have f1 := (HC7.out.ro tp (by omega) (by omega)).free kk
                  rw [HGT.out] at f1
                  refine wpAny_one (i := 8) (by kernel_rfl) ?_
                  refine wpOp_step rfl (fun K2 hK2 => ?_)
                  go_simp
                  refine hK2 _ _ ?_
                  clear hK2 K2 e7
                  refine wpAny_done (by kernel_rfl) ?_ _
                  have HC8 : Hid (CoB w1 cg (s.size + 1) K (s.size + 1) g (fB rs (setB B4 (i + x.p.size, ⟨ta, tb, tc⟩))) (w10.setCell ⟨gt, kk, none⟩ (.bool true))) := by
                   have h := HC7.out.put (f' := fB rs (setB B4 (i + x.p.size, ⟨ta, tb, tc⟩))) (i := tp) (k := kk) (by omega) (by omega) (by rw [HFB.out]; exact setB_same _ _) (fun x1 y1 h1 h2 h3 => by
                    show setB B4 _ (x1, (theG rs).1.getD y1 St.start) = B4 (x1, (theG rs).1.getD y1 St.start)
                    refine setB_ne (fun e => ?_)
                    injection e with e1 e2
                    have h4 : x1 = tp := by rw [e1, HTP2.out]
                    have h5 : (theG rs).1.getD kk St.start = ⟨ta, tb, tc⟩ := HKG.out
                    rcases h3 with h3 | h3
                    ·
                     exact h3 h4
                    ·
                     exact h3 (stk_ne HG.out HFT.out hm.1 (by rw [HKE.out]; exact h2) (by rw [HKE.out]; exact hkK) (by rw [e2, h5])))
                   rw [HGT.out] at h
                   exact h
                  have HMN : Hid (muB (s.size + 1) K (fB rs (setB B4 (i + x.p.size, ⟨ta, tb, tc⟩))) < muB (s.size + 1) K (fB rs B4)) :=
                   muB_lt hmono (i := tp) (k := kk) (by omega) hkK (by rw [HFB.out]; exact HBU.out) (by rw [HFB.out]; exact setB_same _ _)
                  have HML : Hid (muB (s.size + 1) K (fB rs (setB B4 (i + x.p.size, ⟨ta, tb, tc⟩))) < muB (s.size + 1) K (fB rs B2)) := Nat.lt_of_lt_of_le HMN.out HMU.out
                  clear hS HC7 HC6 f1 r1' hmono
                  go_wp2_with fail
                  go_roundg (rs.length - (r + 1))
                  case measure => rw [HGE.out]; omega
                  case rel => exact ⟨r + 1, true, _, hrn, rfl, by go_num, rfl, HC8.out, HRS.out, Nat.le_of_lt HML.out, fun _ => HML.out, fun h => by cases h⟩
          ·
           obtain rfl : r = rs.length := by omega
           have HPR2 : Hid (ch = false → ∀ y, y < c + 1 → ∀ r, r < rs.length → PrB rs (bytes s) i B4 y r) := fun h y hy r' hr' => by
            by_cases e : y = c
            ·
             subst e; exact (HPR.out h).2 r' hr'
            ·
             exact (HPR.out h).1 y (by omega) r' hr'
           clear HPR HGE
           go_wp2_with fail
           go_roundg (K - (c + 1))
           case measure => rw [HGD.out]; omega
           case rel => exact ⟨c + 1, ch, B4, hck, rfl, by go_num, rfl, HCB.out, HRC.out, HMU.out, HMT.out, HPR2.out⟩
        ·
         obtain rfl : c = K := by omega
         clear HGD
         go_wp2_with fail
         go_roundg (if ch = true then muB (s.size + 1) c (fB rs B3) + 1 else 0)
         case measure =>
          rw [HGC.out]
          cases ch with
          | true => have := HMT.out rfl; rw [if_pos rfl]; omega
          | false => rw [if_neg Bool.false_ne_true]; omega
         case rel => exact ⟨ch, B3, rfl, rfl, HCB.out, HRC.out, HPR.out⟩
    ·
     obtain rfl : i = s.size + 1 := by omega
     have HEND : Hid (Rch6End rs (bytes s) w (.returned (.int .i64 G)) wr) := by
      refine ⟨G, rfl, top_R HG.out HFT.out HRG.out (fun i' h1 h2 => HTP.out i' (by rw [bytes_len] at h1; omega) h2), ?_⟩
      have h1 := HCB.out.bb
      have h2 := HB1.out
      exact below_next h2 h1
     clear HCB HRC HRG HTP HGK
     go_wp2_with fail
     go_ret
     exact HEND.out
end Go.Proofs.Ytpkdlljefkbmpaa
