/- Merged by program: Tq2 Tq3 Tq1 Tq4 -/
import Derived.Test.YtpkdlljefkbmpaaT1
import Derived.Test.YtpkdlljefkbmpaaT2
import Derived.Test.YtpkdlljefkbmpaaQ17
import Derived.Test.YtpkdlljefkbmpaaQ18

/-! The reference of package translate, purely: by place and state the same lists are best as by place and mode. -/
namespace Go.Proofs.Ytpkdlljefkbmpaa
open Go.RowKit Go.Maps
theorem gd_RP {m a : Int} {rs : List Rule} (hG : GoodL m a rs) (hf : ∀ x ∈ rs, x.fits) {s : List Nat} {ks : List Int} : GdE (edgR rs s) (finR a s) (0, St.start) ks ↔ GdE (edgP rs s) (finP a s) (0, 0) ks := by
 rw [gdR_iff, gdP_iff hG hf]
theorem best_RP {m a : Int} {rs : List Rule} (hG : GoodL m a rs) (hf : ∀ x ∈ rs, x.fits) {s : List Nat} {ks : List Int} : BestE (edgR rs s) (cstR rs) (finR a s) (0, St.start) ks ↔ BestE (edgP rs s) (cstR rs) (finP a s) (0, 0) ks := by
 unfold BestE
 rw [gd_RP hG hf]
 constructor
 ·
  rintro ⟨h1, h2⟩
  exact ⟨h1, fun ls hl => h2 ls ((gd_RP hG hf).2 hl)⟩
 ·
  rintro ⟨h1, h2⟩
  exact ⟨h1, fun ls hl => h2 ls ((gd_RP hG hf).1 hl)⟩
theorem edgR_cst {m a : Int} {rs : List Rule} (hG : GoodL m a rs) {s : List Nat} (v : Nat × St) (k : Int) (u : Nat × St) (h : edgR rs s v k = some u) : 1 ≤ cstR rs k ∧ 0 ≤ k := by
 unfold edgR at h
 split at h
 ·
  rename_i hc
  obtain ⟨j, rfl, hj, e⟩ := step_at hc.1
  unfold cstR
  rw [e]
  exact ⟨(sound_sizes hG (List.getElem_mem hj)).2.1, Int.natCast_nonneg j⟩
 ·
  cases h
def CostV (a : Int) (rs : List Rule) (s : List Nat) (v : Nat × St) (c : Int) : Prop :=
 (c = -1 ∧ ∀ ks, ¬ GdE (edgR rs s) (finR a s) v ks) ∨ (∃ ks, MinE (edgR rs s) (cstR rs) (finR a s) v ks ∧ c = (cstE (cstR rs) ks : Nat))
theorem costV_one {a : Int} {rs : List Rule} {s : List Nat} {v : Nat × St} {c c' : Int} (h : CostV a rs s v c) (h' : CostV a rs s v c') : c = c' := by
 rcases h with ⟨rfl, hn⟩ | ⟨ks, hk, rfl⟩ <;> rcases h' with ⟨rfl, hn'⟩ | ⟨ks', hk', rfl⟩
 ·
  rfl
 ·
  exact absurd hk'.1 (hn ks')
 ·
  exact absurd hk.1 (hn' ks)
 ·
  have h1 := hk.2 ks' hk'.1
  have h2 := hk'.2 ks hk.1
  omega
end Go.Proofs.Ytpkdlljefkbmpaa

/-! Costs through a graph that are improved one by one: each stays that of a list, and what no rule improves is the least. -/
namespace Go.Proofs.Ytpkdlljefkbmpaa
open Go.RowKit Go.Maps
section
variable {ν : Type} {E : ν → Int → Option ν} {c : Int → Nat} {F : ν → Bool}
def TrkE (E : ν → Int → Option ν) (c : Int → Nat) (F : ν → Bool) (H : ν → Int) : ν → List Int → Prop
 | v, [] => F v = true ∧ 0 ≤ H v ∧ H v ≤ 0
 | v, k :: r => ∃ u, E v k = some u ∧ TrkE E c F H u r ∧ 0 ≤ H v ∧ H v ≤ (cstE c (k :: r) : Nat)
theorem trk_gd {H : ν → Int} : ∀ (ks : List Int) (v : ν), TrkE E c F H v ks → GdE E F v ks := by
 intro ks
 induction ks with
 | nil => intro v h; exact gdE_nil.2 h.1
 | cons k r ih =>
  rintro v ⟨u, h1, h2, _⟩
  exact gdE_cons.2 ⟨u, h1, ih u h2⟩
theorem trk_mono {H H' : ν → Int} (hm : ∀ v, 0 ≤ H v → 0 ≤ H' v ∧ H' v ≤ H v) : ∀ (ks : List Int) (v : ν), TrkE E c F H v ks → TrkE E c F H' v ks := by
 intro ks
 induction ks with
 | nil =>
  rintro v ⟨h1, h2, h3⟩
  obtain ⟨h4, h5⟩ := hm v h2
  exact ⟨h1, h4, by omega⟩
 | cons k r ih =>
  rintro v ⟨u, h1, h2, h3, h4⟩
  obtain ⟨h5, h6⟩ := hm v h3
  exact ⟨u, h1, ih u h2, h5, by omega⟩
theorem trk_mem {H : ν → Int} : ∀ (ks : List Int) (v x : ν), TrkE E c F H v ks → x ∈ plcE E v ks → 0 ≤ H x ∧ H x ≤ (cstE c ks : Nat) := by
 intro ks
 induction ks with
 | nil => intro v x _ hx; cases hx
 | cons k r ih =>
  rintro v x ⟨u, h1, h2, h3, h4⟩ hx
  unfold plcE at hx
  rw [h1] at hx
  rcases List.mem_cons.1 hx with e | g
  ·
   rw [e]; exact ⟨h3, h4⟩
  ·
   obtain ⟨h5, h6⟩ := ih u x h2 g
   refine ⟨h5, ?_⟩
   simp only [cstE]
   omega
def TgtE (E : ν → Int → Option ν) (c : Int → Nat) (F : ν → Bool) (H : ν → Int) (v : ν) : Prop := H v = -1 ∨ ∃ ks, TrkE E c F H v ks ∧ (plcE E v ks).Nodup ∧ H v = (cstE c ks : Nat)
theorem tgt_upd {H H' : ν → Int} {v u : ν} {k : Int} (hT : ∀ x, TgtE E c F H x) (hE : E v k = some u) (hu : 0 ≤ H u) (hc : 1 ≤ c k) (hlt : H v < 0 ∨ (c k : Int) + H u < H v) (hv : H' v = (c k : Nat) + H u) (hx : ∀ x, x ≠ v → H' x = H x) : ∀ x, TgtE E c F H' x := by
 have hm : ∀ x, 0 ≤ H x → 0 ≤ H' x ∧ H' x ≤ H x := fun x h => by
  by_cases e : x = v
  ·
   subst e; rw [hv]; omega
  ·
   rw [hx x e]; omega
 intro x
 by_cases e : x = v
 ·
  subst e
  rcases hT u with h | ⟨ks, h1, h2, h3⟩
  ·
   omega
  ·
   refine .inr ⟨k :: ks, ⟨u, hE, trk_mono hm ks u h1, by omega, ?_⟩, ?_, ?_⟩
   ·
    simp only [cstE]; omega
   ·
    unfold plcE
    rw [hE]
    refine List.nodup_cons.2 ⟨fun hm2 => ?_, h2⟩
    obtain ⟨h4, h5⟩ := trk_mem ks u x h1 hm2
    omega
   ·
    simp only [cstE]; omega
 ·
  rcases hT x with h | ⟨ks, h1, h2, h3⟩
  ·
   exact .inl (by rw [hx x e]; exact h)
  ·
   exact .inr ⟨ks, trk_mono hm ks x h1, h2, by rw [hx x e]; exact h3⟩
theorem tgt_fin {H H' : ν → Int} (hT : ∀ x, TgtE E c F H x) (hx : ∀ x, H' x = H x ∨ (F x = true ∧ H x < 0 ∧ H' x = 0)) : ∀ x, TgtE E c F H' x := by
 have hm : ∀ x, 0 ≤ H x → 0 ≤ H' x ∧ H' x ≤ H x := fun x h => by
  rcases hx x with e | ⟨_, h1, _⟩
  ·
   omega
  ·
   omega
 intro x
 rcases hx x with e | ⟨h1, h2, h3⟩
 ·
  rcases hT x with h | ⟨ks, h1, h2, h3⟩
  ·
   exact .inl (by rw [e]; exact h)
  ·
   exact .inr ⟨ks, trk_mono hm ks x h1, h2, by rw [e]; exact h3⟩
 ·
  exact .inr ⟨[], ⟨h1, by omega, by omega⟩, List.nodup_nil, h3⟩
theorem tgt_bound [DecidableEq ν] {H : ν → Int} {C : Nat} {L : List ν} (hc : ∀ v k u, E v k = some u → c k ≤ C) (hL : ∀ v k u, v ∈ L → E v k = some u → u ∈ L) {v : ν} (hv : v ∈ L) (h : TgtE E c F H v) : -1 ≤ H v ∧ H v ≤ (C * L.length : Nat) := by
 rcases h with h | ⟨ks, h1, h2, h3⟩
 ·
  omega
 ·
  obtain ⟨u, h4, _⟩ := trk_gd ks v h1
  have h5 := cstE_len hc ks v u h4
  have h6 := len_le_of_nodup _ L h2 (plcE_in (P := fun x => x ∈ L) hL ks v hv)
  rw [plcE_len ks v u h4] at h6
  have h7 : cstE c ks ≤ C * L.length := Nat.le_trans h5 (Nat.mul_le_mul_left C h6)
  omega
def ClsE (E : ν → Int → Option ν) (c : Int → Nat) (F : ν → Bool) (H : ν → Int) (v : ν) : Prop := (F v = true → H v = 0) ∧ ∀ k u, E v k = some u → 0 ≤ H u → 0 ≤ H v ∧ H v ≤ (c k : Nat) + H u
theorem cls_low {P : ν → Prop} {H : ν → Int} (hP : ∀ v k u, P v → E v k = some u → P u) (hC : ∀ v, P v → ClsE E c F H v) : ∀ (ks : List Int) (v : ν), P v → GdE E F v ks → 0 ≤ H v ∧ H v ≤ (cstE c ks : Nat) := by
 intro ks
 induction ks with
 | nil =>
  intro v hv h
  have := (hC v hv).1 (gdE_nil.1 h)
  simp only [cstE]
  omega
 | cons k r ih =>
  intro v hv h
  obtain ⟨u, h1, h2⟩ := gdE_cons.1 h
  obtain ⟨h3, h4⟩ := ih u (hP v k u hv h1) h2
  have h5 := (hC v hv).2 k u h1 h3
  simp only [cstE]
  omega
end
theorem costV_of {a : Int} {rs : List Rule} {s : List Nat} {H : Nat × St → Int} {v : Nat × St} (hT : TgtE (edgR rs s) (cstR rs) (finR a s) H v) (hl : ∀ ks, GdE (edgR rs s) (finR a s) v ks → 0 ≤ H v ∧ H v ≤ (cstE (cstR rs) ks : Nat)) : CostV a rs s v (H v) := by
 rcases hT with h | ⟨ks, h1, _, h3⟩
 ·
  exact .inl ⟨h, fun ks hk => by have := hl ks hk; omega⟩
 ·
  refine .inr ⟨ks, ⟨trk_gd ks v h1, fun ls hl2 => ?_⟩, h3⟩
  have := hl ls hl2
  omega
end Go.Proofs.Ytpkdlljefkbmpaa

/-! The reference of package translate: Begins, least. -/
namespace Go.Proofs.Ytpkdlljefkbmpaa
open Go.RowKit Go.Maps
theorem at_iff (s p : ByteArray) (i : Nat) : ((s.extract i (i + p.size)).toList == p.toList) = (bytes p).isPrefixOf ((bytes s).drop i) := by
 have e : s.extract i (i + p.size) = (s.extract i s.size).extract 0 p.size := by
  rw [ByteArray.extract_extract]
  simp only [Nat.add_zero]
  apply ByteArray.ext
  simp only [ByteArray.data_extract]
  apply Array.ext'
  simp
  omega
 have h2 : bytes (s.extract i s.size) = (bytes s).drop i := by
  unfold bytes
  simp
  rw [List.take_of_length_le (by simp)]
 rw [e, pre_iff, h2]
set_option maxRecDepth 10000 in
set_option maxHeartbeats 1000000 in
theorem begins6_any (s p : ByteArray) (i : Nat) (w : World) (hi : i ≤ s.size) (hs : s.size < 2 ^ 40) (hp : p.size < 2 ^ 47) :
  Calls Try.prog 80 #[.string s, .int .i64 i, .string p] w fun e w' => e = .returned (.bool ((bytes p).isPrefixOf ((bytes s).drop i))) ∧ Below w.heap.size w w' := by
 have hi0 : (0 : Int) ≤ (i : Int) := by omega
 have hi1 : (i : Int) ≤ (s.size : Int) := by omega
 by_cases hle : i + p.size ≤ s.size
 ·
  have HV := Lib.hid (at_iff s p i)
  have h1 : (i : Int) + (p.size : Int) ≤ (s.size : Int) := by omega
  have h2 : (i : Int) ≤ (i : Int) + (p.size : Int) := by omega
  go_enter Try.func80, Try.ntmps80
  go_wp2_with fail
  go_ret
  exact ⟨ret_bool HV.out, Below.refl _ _⟩
 ·
  have HV : Hid ((bytes p).isPrefixOf ((bytes s).drop i) = false) := by
   unfold Hid
   rw [Bool.eq_false_iff]
   intro h
   have := (List.isPrefixOf_iff_prefix.1 h).length_le
   rw [List.length_drop, bytes_len, bytes_len] at this
   omega
  have h1 : ¬ (i : Int) + (p.size : Int) ≤ (s.size : Int) := by omega
  go_enter Try.func80, Try.ntmps80
  go_wp2_with fail
  go_ret
  exact ⟨ret_bool HV.out.symm, Below.refl _ _⟩
theorem ret_i6 {a b : Int} (h : a = b) : Ending.returned (.int .i64 a) = .returned (.int .i64 b) := by rw [h]
def leastI (a b : Int) : Int := if a < 0 ∨ (0 ≤ b ∧ b < a) then b else a
theorem least6_any (a b : Int) (w : World) :
  Calls Try.prog 123 #[.int .i64 a, .int .i64 b] w fun e w' => e = .returned (.int .i64 (leastI a b)) ∧ Below w.heap.size w w' := by
 by_cases h1 : a < 0
 ·
  have HV : Hid (leastI a b = b) := by unfold Hid leastI; rw [if_pos (.inl h1)]
  go_enter Try.func123, Try.ntmps123
  go_wp2_with fail
  go_ret
  exact ⟨ret_i6 HV.out.symm, Below.refl _ _⟩
 ·
  by_cases h2 : 0 ≤ b
  ·
   by_cases h3 : b < a
   ·
    have HV : Hid (leastI a b = b) := by unfold Hid leastI; rw [if_pos (.inr ⟨h2, h3⟩)]
    go_enter Try.func123, Try.ntmps123
    go_wp2_with fail
    go_ret
    exact ⟨ret_i6 HV.out.symm, Below.refl _ _⟩
   ·
    have HV : Hid (leastI a b = a) := by unfold Hid leastI; rw [if_neg (fun h => h.elim h1 (fun h => h3 h.2))]
    go_enter Try.func123, Try.ntmps123
    go_wp2_with fail
    go_ret
    exact ⟨ret_i6 HV.out.symm, Below.refl _ _⟩
  ·
   have HV : Hid (leastI a b = a) := by unfold Hid leastI; rw [if_neg (fun h => h.elim h1 (fun h => h2 h.1))]
   go_enter Try.func123, Try.ntmps123
   go_wp2_with fail
   go_ret
   exact ⟨ret_i6 HV.out.symm, Below.refl _ _⟩
end Go.Proofs.Ytpkdlljefkbmpaa

/-! The reference's table of costs by place and state: its memory, what it says of places that are done, what decreases. -/
namespace Go.Proofs.Ytpkdlljefkbmpaa
open Go.RowKit Go.Maps
structure CoI (w : World) (cg L K lo : Nat) (g : Nat → Nat) (f : Nat → Nat → Int) : Prop where
 co : Blk w cg 43 (rowOf (fun i => if lo ≤ i then .slice (some ⟨g i, 0, none⟩) K K else .slice none 0 0) L)
 ro : ∀ i, lo ≤ i → i < L → Blk w (g i) 3 (rowOf (fun k => .int .i64 (f i k)) K)
 inj : ∀ i j, lo ≤ i → i < j → j < L → g i ≠ g j
theorem CoI.keep {w w' : World} {cg L K lo : Nat} {g : Nat → Nat} {f : Nat → Nat → Int} (H : CoI w cg L K lo g f) (hb : Below w.heap.size w w') : CoI w' cg L K lo g f :=
 ⟨H.co.keep hb H.co.lt, fun i h1 h2 => (H.ro i h1 h2).keep hb (H.ro i h1 h2).lt, H.inj⟩
theorem CoI.congr {w : World} {cg L K lo : Nat} {g : Nat → Nat} {f f' : Nat → Nat → Int} (H : CoI w cg L K lo g f) (h : ∀ i k, lo ≤ i → i < L → k < K → f i k = f' i k) : CoI w cg L K lo g f' :=
 ⟨H.co, fun i h1 h2 => by
  have h3 := H.ro i h1 h2
  rw [rowOf_congr (g := fun k => .int .i64 (f' i k)) (fun k hk => by rw [h i k h1 h2 hk])] at h3
  exact h3, H.inj⟩
theorem CoI.put {w : World} {cg L K lo : Nat} {g : Nat → Nat} {f f' : Nat → Nat → Int} (H : CoI w cg L K lo g f) {i k : Nat} {v : Int} (hi : lo ≤ i) (hL : i < L) (hv : f' i k = v) (ho : ∀ a b, lo ≤ a → a < L → b < K → (a ≠ i ∨ b ≠ k) → f' a b = f a b) : CoI (w.setCell ⟨g i, k, none⟩ (.int .i64 v)) cg L K lo g f' := by
 have key : ∀ b, b ≠ g i → (w.setCell ⟨g i, k, none⟩ (.int .i64 v)).heap[b]? = w.heap[b]? := fun b hb => Below.heap_setCell _ ⟨g i, k, none⟩ _ b hb
 have hr := H.ro i hi hL
 refine ⟨(key cg (fun e => Blk.type_ne H.co hr (by decide) e)).trans H.co, fun i' h1 h2 => ?_, H.inj⟩
 by_cases e : i' = i
 ·
  subst e
  have h3 := (H.ro i' h1 h2).set k (.int .i64 v)
  rw [rowOf_set (fun k => .int .i64 (f i' k)) (fun b => .int .i64 (if b = k then v else f i' b)) K k (.int .i64 v) (by simp) (fun b hb => by simp [hb])] at h3
  rw [rowOf_congr (g := fun b => .int .i64 (f' i' b)) (fun b hb => by
   by_cases e : b = k
   ·
    subst e; simp [hv]
   ·
    simp only [if_neg e]; rw [ho i' b h1 h2 hb (.inr e)])] at h3
  exact h3
 ·
  have hne : g i' ≠ g i := by
   rcases Nat.lt_or_ge i' i with g1 | g1
   ·
    exact H.inj i' i h1 g1 (by omega)
   ·
    exact (H.inj i i' hi (by omega) h2).symm
  have h3 := (key (g i') hne).trans (H.ro i' h1 h2)
  rw [rowOf_congr (g := fun b => .int .i64 (f' i' b)) (fun b hb => by rw [ho i' b h1 h2 hb (.inl e)])] at h3
  exact h3
theorem coI_row {cg : Nat} {w : World} {L K lo : Nat} {g : Nat → Nat} {f f' : Nat → Nat → Int} (H : CoI w cg L K (lo + 1) g f) (hlo : lo < L) {b : Nat} (hb : ∀ i, lo < i → i < L → g i ≠ b) (hB : Blk w b 3 (rowOf (fun k => .int .i64 (f' lo k)) K)) (ho : ∀ a k, lo < a → a < L → k < K → f' a k = f a k) : CoI (w.setCell ⟨cg, lo, none⟩ (.slice (some ⟨b, 0, none⟩) K K)) cg L K lo (fun i => if i = lo then b else g i) f' := by
 have key : ∀ q, q ≠ cg → (w.setCell ⟨cg, lo, none⟩ (.slice (some ⟨b, 0, none⟩) K K)).heap[q]? = w.heap[q]? := fun q hq => Below.heap_setCell _ ⟨cg, lo, none⟩ _ q hq
 refine ⟨?_, fun i h1 h2 => ?_, fun i j h1 h2 h3 => ?_⟩
 ·
  have h3 := H.co.set lo (.slice (some ⟨b, 0, none⟩) K K)
  rw [rowOf_set _ (fun i => if lo ≤ i then .slice (some ⟨if i = lo then b else g i, 0, none⟩) K K else .slice none 0 0) L lo _ (by simp) (fun j hj => by
   by_cases e : lo ≤ j
   ·
    rw [if_pos e, if_pos (show lo + 1 ≤ j by omega), if_neg hj]
   ·
    rw [if_neg e, if_neg (show ¬ lo + 1 ≤ j by omega)])] at h3
  exact h3
 ·
  by_cases e : i = lo
  ·
   subst e
   simp only [if_true]
   exact (key b (fun e => Blk.type_ne H.co hB (by decide) e.symm)).trans hB
  ·
   simp only [if_neg e]
   have h4 := H.ro i (by omega) h2
   have h5 := (key (g i) (fun e => Blk.type_ne H.co h4 (by decide) e.symm)).trans h4
   rw [rowOf_congr (g := fun k => .int .i64 (f' i k)) (fun k hk => by rw [ho i k (by omega) h2 hk])] at h5
   exact h5
 ·
  have e2 : ¬ j = lo := by omega
  by_cases e : i = lo
  ·
   simp only [if_pos e, if_neg e2]
   exact (hb j (by omega) h3).symm
  ·
   simp only [if_neg e, if_neg e2]
   exact H.inj i j (by omega) h2 h3
def fH (rs : List Rule) (H : Nat × St → Int) (i k : Nat) : Int := H (i, (theG rs).1.getD k St.start)
theorem stk_at {rs : List Rule} {k : Nat} (hk : k < (theG rs).1.length) : (theG rs).1.getD k St.start = (theG rs).1[k] := by
 rw [List.getD_eq_getElem?_getD, List.getElem?_eq_getElem hk, Option.getD_some]
theorem stk_ne {m a : Int} {rs : List Rule} (hG : GoodL m a rs) (hf : ∀ x ∈ rs, x.fits) (hm : 1 ≤ m) {j k : Nat} (hj : j < (theG rs).1.length) (hk : k < (theG rs).1.length) (h : (theG rs).1.getD j St.start = (theG rs).1.getD k St.start) : j = k := by
 rw [stk_at hj, stk_at hk] at h
 have h1 := nodup_idx (theG_ok hG hf hm).2.1 (List.getElem?_eq_getElem hj)
 have h2 := nodup_idx (theG_ok hG hf hm).2.1 (List.getElem?_eq_getElem hk)
 rw [h] at h1
 omega
structure InvH (a : Int) (rs : List Rule) (s : List Nat) (lo : Nat) (H : Nat × St → Int) : Prop where
 tgt : ∀ v, TgtE (edgR rs s) (cstR rs) (finR a s) H v
 low : ∀ v, v.1 < lo → H v = -1
 cls : ∀ v, lo ≤ v.1 → v.1 ≤ s.length → v.2 ∈ (theG rs).1 → ClsE (edgR rs s) (cstR rs) (finR a s) H v
theorem edgR_in {m a : Int} {rs : List Rule} (hG : GoodL m a rs) (hf : ∀ x ∈ rs, x.fits) (hm : 1 ≤ m ∧ m ≤ 8) {s : List Nat} {v u : Nat × St} {k : Int} (h1 : v.1 ≤ s.length) (h2 : v.2 ∈ (theG rs).1) (h : edgR rs s v k = some u) : v.1 ≤ u.1 ∧ u.1 ≤ s.length ∧ u.2 ∈ (theG rs).1 := by
 obtain ⟨j, rfl, hj, h3, h4, rfl⟩ := edgR_some h
 have h5 := (pre_split h4 h1).2.2
 rw [← size_len] at h5
 obtain ⟨x, hx, e⟩ := List.getElem_of_mem h2
 refine ⟨Nat.le_add_right _ _, h5, ?_⟩
 exact theG_clo hG hf hm x v.2 hx (by rw [List.getElem?_eq_getElem hx, e]) j hj h3
theorem InvH.cost {m a : Int} {rs : List Rule} (hG : GoodL m a rs) (hf : ∀ x ∈ rs, x.fits) (hm : 1 ≤ m ∧ m ≤ 8) {s : List Nat} {lo : Nat} {H : Nat × St → Int} (h : InvH a rs s lo H) {v : Nat × St} (h1 : lo ≤ v.1) (h2 : v.1 ≤ s.length) (h3 : v.2 ∈ (theG rs).1) : CostV a rs s v (H v) := by
 refine costV_of (h.tgt v) fun ks hk => ?_
 refine cls_low (P := fun v => lo ≤ v.1 ∧ v.1 ≤ s.length ∧ v.2 ∈ (theG rs).1) (fun v k u hv he => ?_) (fun v hv => h.cls v hv.1 hv.2.1 hv.2.2) ks v ⟨h1, h2, h3⟩ hk
 obtain ⟨g1, g2, g3⟩ := edgR_in hG hf hm hv.2.1 hv.2.2 he
 exact ⟨by omega, g2, g3⟩
def plcL (rs : List Rule) (n : Nat) : List (Nat × St) := (List.range (n + 1)).flatMap fun i => (theG rs).1.map fun t => (i, t)
theorem plcL_mem {rs : List Rule} {n : Nat} {v : Nat × St} : v ∈ plcL rs n ↔ v.1 ≤ n ∧ v.2 ∈ (theG rs).1 := by
 unfold plcL
 simp only [List.mem_flatMap, List.mem_range, List.mem_map]
 constructor
 ·
  rintro ⟨i, hi, t, ht, rfl⟩
  exact ⟨by show i ≤ n; omega, ht⟩
 ·
  rintro ⟨h1, h2⟩
  exact ⟨v.1, by omega, v.2, h2, rfl⟩
theorem sum_const (k : Nat) : ∀ l : List Nat, (l.map fun _ => k).sum = l.length * k := by
 intro l
 induction l with
 | nil => simp
 | cons a l ih => rw [List.map_cons, List.sum_cons, ih, List.length_cons, Nat.add_mul]; omega
theorem plcL_len (rs : List Rule) (n : Nat) : (plcL rs n).length = (n + 1) * (theG rs).1.length := by
 unfold plcL
 simp only [List.length_flatMap, List.length_map]
 rw [sum_const, List.length_range]
theorem InvH.bound {m a : Int} {rs : List Rule} (hG : GoodL m a rs) (hf : ∀ x ∈ rs, x.fits) (hm : 1 ≤ m ∧ m ≤ 8) {s : List Nat} {H : Nat × St → Int} (h : ∀ v, TgtE (edgR rs s) (cstR rs) (finR a s) H v) {v : Nat × St} (h2 : v.1 ≤ s.length) (h3 : v.2 ∈ (theG rs).1) : -1 ≤ H v ∧ H v ≤ (4 * ((s.length + 1) * (theG rs).1.length) : Nat) := by
 rw [← plcL_len]
 refine tgt_bound (E := edgR rs s) (c := cstR rs) (F := finR a s) (fun v k u he => ?_) (fun v k u hv he => ?_) (plcL_mem.2 ⟨h2, h3⟩) (h v)
 ·
  obtain ⟨j, rfl, hj, _⟩ := edgR_some he
  unfold cstR
  rw [rule_at hj]
  exact (sound_sizes hG (List.getElem_mem hj)).2.2
 ·
  obtain ⟨g1, g2⟩ := plcL_mem.1 hv
  obtain ⟨_, g3, g4⟩ := edgR_in hG hf hm g1 g2 he
  exact plcL_mem.2 ⟨g3, g4⟩
def muI (B : Nat) (f : Nat → Int) : Nat → Nat
 | 0 => 0
 | k + 1 => muI B f k + (if f k < 0 then B + 1 else (f k).toNat)
theorem muI_le {B : Nat} {f f' : Nat → Int} : ∀ K, (∀ k, k < K → f' k = f k ∨ (0 ≤ f' k ∧ f' k ≤ (B : Int) ∧ (f k < 0 ∨ f' k < f k))) → muI B f' K ≤ muI B f K := by
 intro K
 induction K with
 | zero => intro _; exact Nat.le_refl _
 | succ K ih =>
  intro h
  have h1 := ih fun k hk => h k (by omega)
  have h2 := h K (by omega)
  simp only [muI]
  split <;> split <;> omega
theorem muI_lt {B : Nat} {f f' : Nat → Int} {j : Nat} : ∀ K, j < K → (∀ k, k < K → f' k = f k ∨ (0 ≤ f' k ∧ f' k ≤ (B : Int) ∧ (f k < 0 ∨ f' k < f k))) → f' j ≠ f j → muI B f' K < muI B f K := by
 intro K
 induction K with
 | zero => intro h; omega
 | succ K ih =>
  intro hj h hne
  have h2 := h K (by omega)
  by_cases e : j = K
  ·
   subst e
   have h1 := muI_le (B := B) (f := f) (f' := f') j fun k hk => h k (by omega)
   simp only [muI]
   split <;> split <;> omega
  ·
   have h1 := ih (by omega) (fun k hk => h k (by omega)) hne
   simp only [muI]
   split <;> split <;> omega
def aftV (rs : List Rule) (s : List Nat) (H : Nat × St → Int) (v : Nat × St) (r : Nat) : Int := match edgR rs s v (r : Int) with
 | none => -1
 | some u => if H u < 0 then -1 else H u + ((cstR rs (r : Int) : Nat) : Int)
theorem aft_some {rs : List Rule} {s : List Nat} {H : Nat × St → Int} {v u : Nat × St} {r : Nat} (h : edgR rs s v (r : Int) = some u) : aftV rs s H v r = if H u < 0 then -1 else H u + ((cstR rs (r : Int) : Nat) : Int) := by
 unfold aftV
 rw [h]
theorem aft_none {rs : List Rule} {s : List Nat} {H : Nat × St → Int} {v : Nat × St} {r : Nat} (h : edgR rs s v (r : Int) = none) : aftV rs s H v r = -1 := by
 unfold aftV
 rw [h]
theorem aft_pos {rs : List Rule} {s : List Nat} {H : Nat × St → Int} {v : Nat × St} {r : Nat} (h : 0 ≤ aftV rs s H v r) : ∃ u, edgR rs s v (r : Int) = some u ∧ 0 ≤ H u ∧ aftV rs s H v r = H u + ((cstR rs (r : Int) : Nat) : Int) := by
 unfold aftV at h ⊢
 cases he : edgR rs s v (r : Int) with
 | none => rw [he] at h; simp at h
 | some u =>
  rw [he] at h
  simp only at h ⊢
  by_cases hu : H u < 0
  ·
   rw [if_pos hu] at h; omega
  ·
   rw [if_neg hu]; exact ⟨u, rfl, by omega, rfl⟩
end Go.Proofs.Ytpkdlljefkbmpaa
