/- Merged by program: Tr1 Tr2 Tr3 Tr11 -/
import Derived.Test.YtpkdlljefkbmpaaQ1
import Derived.Test.YtpkdlljefkbmpaaQ20
import Derived.Test.YtpkdlljefkbmpaaQ14
import Derived.Test.YtpkdlljefkbmpaaQ24
import Derived.Test.YtpkdlljefkbmpaaQ17

/-! Translation, purely: rules at a place of a text; lists of rules through places and modes, and through places and states; both are the paths of the text. -/
namespace Go.Proofs.Ytpkdlljefkbmpaa
open Go.RowKit Go.Maps
def folB (s : List Nat) (x : Rule) (i : Nat) : Bool := (bytes x.p).isPrefixOf (s.drop i) && (bitB x.l (lcl (s.take i)) && bitB x.r (fcl (s.drop (i + x.p.size))))
def edgP (rs : List Rule) (s : List Nat) (v : Nat × Int) (k : Int) : Option (Nat × Int) := if (0 ≤ k ∧ k < (rs.length : Int)) ∧ (ruleOf rs k).f = v.2 ∧ folB s (ruleOf rs k) v.1 = true then some (v.1 + (ruleOf rs k).p.size, (ruleOf rs k).t) else none
def finP (a : Int) (s : List Nat) (v : Nat × Int) : Bool := decide (v.1 = s.length) && bitB a v.2
def edgR (rs : List Rule) (s : List Nat) (v : Nat × St) (k : Int) : Option (Nat × St) := if (stepS rs v.2 k).2 = true ∧ (bytes (ruleOf rs k).p).isPrefixOf (s.drop v.1) = true then some (v.1 + (ruleOf rs k).p.size, (stepS rs v.2 k).1) else none
def finR (a : Int) (s : List Nat) (v : Nat × St) : Bool := decide (v.1 = s.length) && accB a v.2
def cstR (rs : List Rule) (k : Int) : Nat := (ruleOf rs k).c.length
theorem cst_flat (rs : List Rule) : ∀ ks : List Int, cstE (cstR rs) ks = (ks.flatMap fun k => (ruleOf rs k).c).length := by
 intro ks
 induction ks with
 | nil => rfl
 | cons k r ih => simp only [cstE, List.flatMap_cons, List.length_append, ih]; rfl
theorem pre_split {s p : List Nat} {i : Nat} (h : p.isPrefixOf (s.drop i) = true) (hi : i ≤ s.length) : s.drop i = p ++ s.drop (i + p.length) ∧ s.take (i + p.length) = s.take i ++ p ∧ i + p.length ≤ s.length := by
 obtain ⟨t, ht⟩ := List.isPrefixOf_iff_prefix.1 h
 have h1 : s.drop (i + p.length) = t := by rw [← List.drop_drop, ← ht]; simp
 refine ⟨by rw [h1, ht], ?_, ?_⟩
 ·
  rw [List.take_add, ← ht]; simp
 ·
  have h2 := congrArg List.length ht
  simp only [List.length_append, List.length_drop] at h2
  omega
theorem size_len (p : ByteArray) : p.size = (bytes p).length := (bytes_len p).symm
theorem rule_at {rs : List Rule} {j : Nat} (hj : j < rs.length) : ruleOf rs (j : Int) = rs[j] := by
 unfold ruleOf
 rw [List.getD_eq_getElem?_getD, show ((j : Int)).toNat = j from rfl, List.getElem?_eq_getElem hj, Option.getD_some]
theorem one_step {m a : Int} {rs : List Rule} (hG : GoodL m a rs) (hf : ∀ x ∈ rs, x.fits) {s : List Nat} {i : Nat} (hi : i ≤ s.length) {mo ne : Int} (hn0 : 0 ≤ ne) (hn1 : ne < 64) {j : Nat} (hj : j < rs.length) (hp : (bytes rs[j].p).isPrefixOf (s.drop i) = true) :
  (((stepS rs ⟨mo, lcl (s.take i), ne⟩ (j : Int)).2 = true ∧ bitB (stepS rs ⟨mo, lcl (s.take i), ne⟩ (j : Int)).1.need (fcl (s.drop (i + rs[j].p.size))) = true) ↔ (bitB ne (fcl (s.drop i)) = true ∧ rs[j].f = mo ∧ folB s rs[j] i = true)) ∧
  ((stepS rs ⟨mo, lcl (s.take i), ne⟩ (j : Int)).2 = true → ∃ ne', (stepS rs ⟨mo, lcl (s.take i), ne⟩ (j : Int)).1 = ⟨rs[j].t, lcl (s.take (i + rs[j].p.size)), ne'⟩ ∧ 0 ≤ ne' ∧ ne' < 64) := by
 obtain ⟨hxl, hxr, hxt⟩ := masks hG hf (List.getElem_mem hj)
 have hst : stepS rs ⟨mo, lcl (s.take i), ne⟩ (j : Int) = match stepR rs[j] ⟨mo, lcl (s.take i), ne⟩ with | none => (St.zero, false) | some t => (t, true) := stepS_at (x := rs[j]) (List.getElem?_eq_getElem hj)
 generalize rs[j] = x at *
 obtain ⟨hd, ht, hle⟩ := pre_split hp hi
 have hfol : folB s x i = (bitB x.l (lcl (s.take i)) && bitB x.r (fcl (s.drop (i + x.p.size)))) := by unfold folB; rw [hp, Bool.true_and]
 have hfb := fcl_bd (s.drop (i + x.p.size))
 rw [hfol, Bool.and_eq_true]
 rw [size_len]
 rw [size_len] at hfb
 by_cases h1 : x.f = mo
 ·
  by_cases h2 : bitB x.l (lcl (s.take i)) = true
  ·
   by_cases hz : x.p.size = 0
   ·
    have hbz := bytes_zero.1 hz
    rw [hbz, List.length_nil, Nat.add_zero] at hfb ⊢
    by_cases h3 : mayB x ne = true
    ·
     have e : stepS rs ⟨mo, lcl (s.take i), ne⟩ (j : Int) = (⟨x.t, lcl (s.take i), bits .and .u8 ne x.r⟩, true) := by
      rw [hst]; unfold stepR; rw [if_neg (by simp [h1, h2, h3])]; unfold afterS; rw [if_pos hz]
     rw [e]
     have hbd := and_bd ne x.r hn0 hn1 hxr.1 hxr.2
     refine ⟨?_, fun _ => ⟨_, rfl, hbd.1, hbd.2⟩⟩
     show (true = true ∧ bitB (bits .and .u8 ne x.r) _ = true) ↔ _
     rw [bit_and ne x.r _ hn0 hn1 hxr.1 hxr.2 hfb.1 hfb.2, Bool.and_eq_true]
     exact ⟨fun ⟨_, g1, g2⟩ => ⟨g1, h1, h2, g2⟩, fun ⟨g1, _, _, g2⟩ => ⟨rfl, g1, g2⟩⟩
    ·
     have e : stepS rs ⟨mo, lcl (s.take i), ne⟩ (j : Int) = (St.zero, false) := by
      rw [hst]; unfold stepR; rw [if_pos (.inr (.inr (by simpa using h3)))]
     rw [e]
     have h3' : bits .and .u8 ne x.r = 0 := by
      unfold mayB at h3; rw [if_pos hz] at h3; simpa using h3
     have hb0 := bit_and ne x.r (fcl (s.drop i)) hn0 hn1 hxr.1 hxr.2 hfb.1 hfb.2
     rw [h3', bit_zero] at hb0
     refine ⟨⟨fun ⟨h, _⟩ => (by cases h), fun ⟨g1, _, _, g2⟩ => ?_⟩, fun h => by cases h⟩
     rw [g1, g2] at hb0; cases hb0
   ·
    have hbz : bytes x.p ≠ [] := fun e => hz (bytes_zero.2 e)
    have hmay : mayB x ne = bitB ne (fcl (s.drop i)) := by
     unfold mayB; rw [if_neg hz, byte_first hz, hd, fcl_app, if_neg hbz]
    by_cases h3 : mayB x ne = true
    ·
     have e : stepS rs ⟨mo, lcl (s.take i), ne⟩ (j : Int) = (⟨x.t, lcl (s.take (i + (bytes x.p).length)), x.r⟩, true) := by
      rw [hst]; unfold stepR; rw [if_neg (by simp [h1, h2, h3])]; unfold afterS; rw [if_neg hz, byte_last hz, ht, lcl_app, if_neg hbz]
     rw [e]
     rw [hmay] at h3
     exact ⟨⟨fun ⟨_, g⟩ => ⟨h3, h1, h2, g⟩, fun ⟨_, _, _, g⟩ => ⟨rfl, g⟩⟩, fun _ => ⟨_, rfl, hxr.1, hxr.2⟩⟩
    ·
     have e : stepS rs ⟨mo, lcl (s.take i), ne⟩ (j : Int) = (St.zero, false) := by
      rw [hst]; unfold stepR; rw [if_pos (.inr (.inr (by simpa using h3)))]
     rw [e]
     rw [hmay] at h3
     exact ⟨⟨fun ⟨h, _⟩ => (by cases h), fun ⟨g, _⟩ => absurd g h3⟩, fun h => by cases h⟩
  ·
   have e : stepS rs ⟨mo, lcl (s.take i), ne⟩ (j : Int) = (St.zero, false) := by
    rw [hst]; unfold stepR; rw [if_pos (.inr (.inl (by simpa using h2)))]
   rw [e]
   exact ⟨⟨fun ⟨h, _⟩ => (by cases h), fun ⟨_, _, g, _⟩ => absurd g h2⟩, fun h => by cases h⟩
 ·
  have e : stepS rs ⟨mo, lcl (s.take i), ne⟩ (j : Int) = (St.zero, false) := by
   rw [hst]; unfold stepR; rw [if_pos (.inl h1)]
  rw [e]
  exact ⟨⟨fun ⟨h, _⟩ => (by cases h), fun ⟨_, g, _⟩ => absurd g h1⟩, fun h => by cases h⟩
theorem edgR_some {rs : List Rule} {s : List Nat} {v u : Nat × St} {k : Int} (h : edgR rs s v k = some u) : ∃ j : Nat, k = j ∧ ∃ hj : j < rs.length, (stepS rs v.2 (j : Int)).2 = true ∧ (bytes rs[j].p).isPrefixOf (s.drop v.1) = true ∧ u = (v.1 + rs[j].p.size, (stepS rs v.2 (j : Int)).1) := by
 unfold edgR at h
 split at h
 ·
  rename_i h2
  obtain ⟨j, e, hj, hr⟩ := step_at h2.1
  subst e
  rw [hr] at h2 h
  exact ⟨j, rfl, hj, h2.1, h2.2, (Option.some.inj h).symm⟩
 ·
  cases h
theorem edgP_some {rs : List Rule} {s : List Nat} {v u : Nat × Int} {k : Int} (h : edgP rs s v k = some u) : ∃ j : Nat, k = j ∧ ∃ hj : j < rs.length, rs[j].f = v.2 ∧ folB s rs[j] v.1 = true ∧ u = (v.1 + rs[j].p.size, rs[j].t) := by
 unfold edgP at h
 split at h
 ·
  rename_i h2
  obtain ⟨j, e⟩ : ∃ j : Nat, k = (j : Int) := ⟨k.toNat, by omega⟩
  subst e
  have hj : j < rs.length := by omega
  rw [rule_at hj] at h2 h
  exact ⟨j, rfl, hj, h2.2.1, h2.2.2, (Option.some.inj h).symm⟩
 ·
  cases h
theorem edgP_mk {rs : List Rule} {s : List Nat} {v : Nat × Int} {j : Nat} (hj : j < rs.length) (h1 : rs[j].f = v.2) (h2 : folB s rs[j] v.1 = true) : edgP rs s v (j : Int) = some (v.1 + rs[j].p.size, rs[j].t) := by
 unfold edgP
 rw [rule_at hj, if_pos ⟨by omega, h1, h2⟩]
theorem edgR_mk {rs : List Rule} {s : List Nat} {v : Nat × St} {j : Nat} (hj : j < rs.length) (h1 : (stepS rs v.2 (j : Int)).2 = true) (h2 : (bytes rs[j].p).isPrefixOf (s.drop v.1) = true) : edgR rs s v (j : Int) = some (v.1 + rs[j].p.size, (stepS rs v.2 (j : Int)).1) := by
 unfold edgR
 rw [rule_at hj, if_pos ⟨h1, h2⟩]
theorem fol_pre {s : List Nat} {x : Rule} {i : Nat} (h : folB s x i = true) : (bytes x.p).isPrefixOf (s.drop i) = true := by
 unfold folB at h
 rw [Bool.and_eq_true] at h
 exact h.1
theorem go_both {m a : Int} {rs : List Rule} (hG : GoodL m a rs) (hf : ∀ x ∈ rs, x.fits) {s : List Nat} : ∀ (ks : List Int) (i j : Nat) (mo ne : Int), i ≤ s.length → 0 ≤ ne → ne < 64 →
  (∀ u, goE (edgR rs s) (i, ⟨mo, lcl (s.take i), ne⟩) ks = some (j, u) → bitB u.need (fcl (s.drop j)) = true → bitB ne (fcl (s.drop i)) = true ∧ goE (edgP rs s) (i, mo) ks = some (j, u.mode)) ∧
  (∀ mo', bitB ne (fcl (s.drop i)) = true → goE (edgP rs s) (i, mo) ks = some (j, mo') → ∃ u, goE (edgR rs s) (i, ⟨mo, lcl (s.take i), ne⟩) ks = some (j, u) ∧ bitB u.need (fcl (s.drop j)) = true ∧ u.mode = mo') := by
 intro ks
 induction ks with
 | nil =>
  intro i j mo ne hi hn0 hn1
  constructor
  ·
   intro u h hb
   have e := Option.some.inj h
   injection e with e1 e2
   subst e1 e2
   exact ⟨hb, rfl⟩
  ·
   intro mo' hb h
   have e := Option.some.inj h
   injection e with e1 e2
   subst e1 e2
   exact ⟨_, rfl, hb, rfl⟩
 | cons k r ih =>
  intro i j mo ne hi hn0 hn1
  constructor
  ·
   intro u h hb
   obtain ⟨x, h1, h2⟩ := goE_cons.1 h
   obtain ⟨q, rfl, hq, h3, h4, rfl⟩ := edgR_some h1
   obtain ⟨o1, o2⟩ := one_step hG hf hi (mo := mo) hn0 hn1 hq h4
   obtain ⟨ne', e, hn0', hn1'⟩ := o2 h3
   have hle := (pre_split h4 hi).2.2
   rw [← size_len] at hle
   rw [e] at h2 o1
   obtain ⟨g1, g2⟩ := (ih (i + rs[q].p.size) j rs[q].t ne' hle hn0' hn1').1 u h2 hb
   obtain ⟨p1, p2, p3⟩ := o1.1 ⟨h3, g1⟩
   exact ⟨p1, goE_cons.2 ⟨_, edgP_mk hq p2 p3, g2⟩⟩
  ·
   intro mo' hb h
   obtain ⟨x, h1, h2⟩ := goE_cons.1 h
   obtain ⟨q, rfl, hq, h3, h4, rfl⟩ := edgP_some h1
   have h5 := fol_pre h4
   obtain ⟨o1, o2⟩ := one_step hG hf hi (mo := mo) hn0 hn1 hq h5
   obtain ⟨p1, p2⟩ := o1.2 ⟨hb, h3, h4⟩
   obtain ⟨ne', e, hn0', hn1'⟩ := o2 p1
   have hle := (pre_split h5 hi).2.2
   rw [← size_len] at hle
   rw [e] at p2
   obtain ⟨u, g1, g2, g3⟩ := (ih (i + rs[q].p.size) j rs[q].t ne' hle hn0' hn1').2 mo' p2 h2
   refine ⟨u, goE_cons.2 ⟨_, edgR_mk hq p1 h5, ?_⟩, g2, g3⟩
   rw [e]; exact g1
theorem goR_steps {rs : List Rule} {s : List Nat} : ∀ (ks : List Int) (i : Nat) (st : St) (j : Nat) (u : St), i ≤ s.length → (goE (edgR rs s) (i, st) ks = some (j, u) ↔ (stepsL rs st ks = some u ∧ prtL rs ks <+: s.drop i ∧ j = i + (prtL rs ks).length)) := by
 intro ks
 induction ks with
 | nil =>
  intro i st j u _
  constructor
  ·
   intro h
   have e := Option.some.inj h
   injection e with e1 e2
   subst e1 e2
   exact ⟨rfl, List.nil_prefix, rfl⟩
  ·
   rintro ⟨h1, _, h3⟩
   have e := Option.some.inj h1
   subst e h3
   rfl
 | cons k r ih =>
  intro i st j u hi
  have hp : prtL rs (k :: r) = bytes (ruleOf rs k).p ++ prtL rs r := by unfold prtL; rw [List.flatMap_cons]
  rw [goE_cons, hp]
  constructor
  ·
   rintro ⟨x, h1, h2⟩
   obtain ⟨q, rfl, hq, h3, h4, rfl⟩ := edgR_some h1
   rw [rule_at hq]
   obtain ⟨d1, _, d3⟩ := pre_split h4 hi
   obtain ⟨g1, g2, g3⟩ := (ih _ _ _ _ (by rw [size_len]; exact d3)).1 h2
   refine ⟨by unfold stepsL; rw [if_pos h3]; exact g1, ?_, ?_⟩
   ·
    rw [d1]; rw [size_len] at g2; exact (List.prefix_append_right_inj _).2 g2
   ·
    rw [g3, size_len, List.length_append]; omega
  ·
   rintro ⟨h1, h2, h3⟩
   unfold stepsL at h1
   split at h1
   ·
    rename_i h4
    obtain ⟨q, rfl, hq, _⟩ := step_at h4
    rw [rule_at hq] at h2 h3
    have h5 : (bytes rs[q].p).isPrefixOf (s.drop i) = true := List.isPrefixOf_iff_prefix.2 ((List.prefix_append _ _).trans h2)
    obtain ⟨d1, _, d3⟩ := pre_split h5 hi
    refine ⟨_, edgR_mk hq h4 h5, (ih _ _ _ _ (by rw [size_len]; exact d3)).2 ⟨h1, ?_, ?_⟩⟩
    ·
     rw [d1] at h2; rw [size_len]; exact (List.prefix_append_right_inj _).1 h2
    ·
     rw [h3, size_len, List.length_append]; omega
   ·
    cases h1
theorem gdR_iff {a : Int} {rs : List Rule} {s : List Nat} {ks : List Int} : GdE (edgR rs s) (finR a s) (0, St.start) ks ↔ (runOk a rs ks = true ∧ prtL rs ks = s) := by
 unfold GdE
 rw [runOk_iff]
 constructor
 ·
  rintro ⟨⟨j, u⟩, h1, h2⟩
  unfold finR at h2
  simp only [Bool.and_eq_true, decide_eq_true_eq] at h2
  obtain ⟨g1, g2, g3⟩ := (goR_steps ks 0 St.start j u (Nat.zero_le _)).1 h1
  rw [List.drop_zero] at g2
  exact ⟨⟨u, g1, h2.2⟩, g2.eq_of_length (by omega)⟩
 ·
  rintro ⟨⟨u, h1, h2⟩, h3⟩
  refine ⟨(s.length, u), (goR_steps ks 0 St.start s.length u (Nat.zero_le _)).2 ⟨h1, by rw [h3]; exact List.prefix_refl _, by rw [h3]; omega⟩, ?_⟩
  unfold finR
  simp only [decide_true, Bool.true_and]
  exact h2
theorem gdP_iff {m a : Int} {rs : List Rule} (hG : GoodL m a rs) (hf : ∀ x ∈ rs, x.fits) {s : List Nat} {ks : List Int} : GdE (edgP rs s) (finP a s) (0, 0) ks ↔ (runOk a rs ks = true ∧ prtL rs ks = s) := by
 rw [← gdR_iff]
 have hfb := fcl_bd (s.drop 0)
 have hb63 := bit_63 (fcl (s.drop 0)) hfb.1 hfb.2
 unfold GdE
 constructor
 ·
  rintro ⟨⟨j, mo⟩, h1, h2⟩
  obtain ⟨u, g1, g2, g3⟩ := (go_both hG hf ks 0 j 0 63 (Nat.zero_le _) (by decide) (by decide)).2 mo hb63 h1
  refine ⟨(j, u), g1, ?_⟩
  unfold finP at h2
  unfold finR accB
  simp only [Bool.and_eq_true, decide_eq_true_eq] at h2 ⊢
  subst g3
  have e := h2.1
  subst e
  rw [List.drop_length] at g2
  exact ⟨rfl, h2.2, g2⟩
 ·
  rintro ⟨⟨j, u⟩, h1, h2⟩
  unfold finR accB at h2
  simp only [Bool.and_eq_true, decide_eq_true_eq] at h2
  have e := h2.1
  subst e
  obtain ⟨_, g2⟩ := (go_both hG hf ks 0 s.length 0 63 (Nat.zero_le _) (by decide) (by decide)).1 u h1 (by rw [List.drop_length]; exact h2.2.2)
  refine ⟨(s.length, u.mode), g2, ?_⟩
  unfold finP
  simp only [decide_true, Bool.true_and]
  exact h2.2.1
end Go.Proofs.Ytpkdlljefkbmpaa

/-! Package translate: the class at a place, what must come next, the state of a mode at a place; whether a text begins with another. -/
namespace Go.Proofs.Ytpkdlljefkbmpaa
open Go.RowKit Go.Maps
def clsV (l : List Nat) (i : Int) : Int := if i < 0 then 0 else match l[i.toNat]? with
 | none => 0
 | some b => clsI b
theorem clsV_need (l : List Nat) (i : Nat) : clsV l i = fcl (l.drop i) := by
 unfold clsV fcl
 rw [if_neg (by omega), Int.toNat_natCast]
 rcases Nat.lt_or_ge i l.length with h | h
 ·
  rw [List.getElem?_eq_getElem h, List.drop_eq_getElem_cons h]
 ·
  rw [List.getElem?_eq_none h, List.drop_eq_nil_of_le h]
theorem clsV_last (l : List Nat) (i : Nat) (h : i ≤ l.length) : clsV l ((i : Int) - 1) = lcl (l.take i) := by
 unfold clsV lcl
 cases i with
 | zero => rw [if_pos (by omega)]; rfl
 | succ j =>
  rw [if_neg (by omega), show ((((j + 1 : Nat) : Int) - 1).toNat) = j from by omega, List.getElem?_eq_getElem (by omega), List.take_succ_eq_append_getElem (by omega), List.getLast?_append]
  rfl
theorem clsV_bd (l : List Nat) (i : Int) : 0 ≤ clsV l i ∧ clsV l i ≤ 5 := by
 unfold clsV
 split
 ·
  exact ⟨by decide, by decide⟩
 ·
  split
  ·
   exact ⟨by decide, by decide⟩
  ·
   exact cls_bd _
set_option maxRecDepth 10000 in
set_option maxHeartbeats 1000000 in
theorem wclass_any (q : Nat) (s : ByteArray) (i : Int) (w : World) (h3 : w.cell? ⟨q, 3, none⟩ = some (.string s)) :
  Calls Try.prog 176 #[.pointer (some ⟨q, 0, none⟩), .int .i64 i] w fun e w' => e = .returned (.int .i64 (clsV (bytes s) i)) ∧ w = w' := by
 by_cases h0 : i < 0
 ·
  have HV : Hid (clsV (bytes s) i = 0) := by unfold Hid clsV; rw [if_pos h0]
  go_enter Try.func176, Try.ntmps176
  go_wp2_with fail
  go_ret
  exact ⟨ret_int HV.out.symm, rfl⟩
 ·
  obtain ⟨j, rfl⟩ : ∃ j : Nat, i = (j : Int) := ⟨i.toNat, by omega⟩
  by_cases h1 : j < s.size
  ·
   have HV : Hid (clsV (bytes s) (j : Int) = clsI (s[j]'h1).toNat) := by
    unfold Hid clsV
    rw [if_neg h0, Int.toNat_natCast, bytes_at s j h1]
   have hlt : (j : Int) < (s.size : Int) := by omega
   have hn : ¬ (s.size : Int) ≤ (j : Int) := by omega
   have hj0 : (0 : Int) ≤ (j : Int) := by omega
   have hby : (0 : Int) ≤ ((s[j]'h1).toNat : Int) ∧ ((s[j]'h1).toNat : Int) < 256 := by have := (s[j]'h1).toNat_lt; omega
   go_enter Try.func176, Try.ntmps176
   go_wp2_with fail
   refine (class_any _ hby.1 hby.2 _).mono ?_
   rintro e w1 ⟨rfl, rfl⟩
   go_wp2_with fail
   go_ret
   exact ⟨ret_int HV.out.symm, rfl⟩
  ·
   have HV : Hid (clsV (bytes s) (j : Int) = 0) := by
    unfold Hid clsV
    rw [if_neg h0, Int.toNat_natCast, List.getElem?_eq_none (by rw [bytes_len]; omega)]
   have hle : (s.size : Int) ≤ (j : Int) := by omega
   go_enter Try.func176, Try.ntmps176
   go_wp2_with fail
   go_ret
   exact ⟨ret_int HV.out.symm, rfl⟩
def maskV (c : Int) : Int := if c = 0 then 1 else if c = 1 then 2 else if c = 2 then 4 else if c = 3 then 8 else if c = 4 then 16 else 32
theorem mask_bit (c j : Int) (h0 : 0 ≤ c) (h1 : c ≤ 5) (h2 : 0 ≤ j) (h3 : j ≤ 5) : bitB (maskV c) j = decide (c = j) := by
 have h := allB2_out (n := 6) (m := 6) (p := fun c j => bitB (maskV (c : Int)) (j : Int) == decide ((c : Int) = (j : Int))) (by decide +kernel) c.toNat j.toNat (by omega) (by omega)
 rw [show ((c.toNat : Nat) : Int) = c from by omega, show ((j.toNat : Nat) : Int) = j from by omega] at h
 exact eq_of_beq h
theorem mask_bd (c : Int) : 0 < maskV c ∧ maskV c < 64 := by unfold maskV; (repeat' split) <;> decide
theorem mask_and (v c : Int) (h0 : 0 ≤ v) (h1 : v < 64) (h2 : 0 ≤ c) (h3 : c ≤ 5) : (bits .and .u8 v (maskV c) == 0) = !bitB v c := by
 have h := allB2_out (n := 64) (m := 6) (p := fun v c => (bits .and .u8 (v : Int) (maskV (c : Int)) == 0) == !bitB (v : Int) (c : Int)) (by decide +kernel) v.toNat c.toNat (by omega) (by omega)
 rw [show ((v.toNat : Nat) : Int) = v from by omega, show ((c.toNat : Nat) : Int) = c from by omega] at h
 exact eq_of_beq h
set_option maxRecDepth 10000 in
set_option maxHeartbeats 1000000 in
theorem wneed_any (q : Nat) (s : ByteArray) (i : Int) (w : World) (h3 : w.cell? ⟨q, 3, none⟩ = some (.string s)) :
  Calls Try.prog 158 #[.pointer (some ⟨q, 0, none⟩), .int .i64 i] w fun e w' => e = .returned (.int .u8 (maskV (clsV (bytes s) i))) ∧ w = w' := by
 have hb := clsV_bd (bytes s) i
 have hc := wclass_any q s i w h3
 generalize clsV (bytes s) i = c at *
 clear h3
 have hcs : c = 0 ∨ c = 1 ∨ c = 2 ∨ c = 3 ∨ c = 4 ∨ c = 5 := by omega
 clear hb
 go_enter Try.func158, Try.ntmps158
 go_wp2_with fail
 refine hc.mono ?_
 clear hc
 rintro e w1 ⟨rfl, rfl⟩
 rcases hcs with rfl | rfl | rfl | rfl | rfl | rfl
 all_goals
  go_wp2_with fail
  go_ret
  exact ⟨rfl, rfl⟩
def stV (l : List Nat) (i mo : Int) : St := ⟨mo, clsV l (i - 1), maskV (clsV l i)⟩
theorem stV_fits (l : List Nat) (i mo : Int) (h0 : 0 ≤ mo) (h1 : mo < 256) : (stV l i mo).fits := by
 have h2 := clsV_bd l (i - 1)
 have h3 := mask_bd (clsV l i)
 unfold St.fits stV
 dsimp only
 omega
set_option maxRecDepth 10000 in
set_option maxHeartbeats 1000000 in
theorem wstate_any (q : Nat) (s : ByteArray) (i : Int) (mo : Int) (w : World) (hi : 0 ≤ i ∧ i < 2 ^ 40) (hq : q < w.heap.size) (h3 : w.cell? ⟨q, 3, none⟩ = some (.string s)) :
  Calls Try.prog 155 #[.pointer (some ⟨q, 0, none⟩), .int .i64 i, .int .i64 mo] w fun e w' => e = .returned (stV (bytes s) i mo).val ∧ Below w.heap.size w w' := by
 have HB : Hid (Below w.heap.size w (w.alloc (.cells #[.int .i64 0, .int .i64 0, .int .u8 0] 47))) := below_box _ _ _
 have HN : Hid (Blk (w.alloc (.cells #[.int .i64 0, .int .i64 0, .int .u8 0] 47)) w.heap.size 47 #[.int .i64 0, .int .i64 0, .int .u8 0]) := Blk.new _ _ _
 have h4 := (HB.out.cell (p := ⟨q, 3, none⟩) hq).trans h3
 have hc1 := fun W h => wclass_any q s (i - 1) W h
 have hc2 := fun W h => wneed_any q s i W h
 unfold stV St.val
 dsimp only
 generalize clsV (bytes s) (i - 1) = c1 at *
 generalize maskV (clsV (bytes s) i) = c2 at *
 have z0 := HN.out.cell 0
 have z1 := HN.out.cell 1
 have z2 := HN.out.cell 2
 have f0 := HN.out.free 0
 have f1 := HN.out.free 1
 have f2 := HN.out.free 2
 simp only [List.getElem?_toArray, List.getElem?_cons_zero, List.getElem?_cons_succ] at z0 z1 z2
 have hi1 : (-1 : Int) ≤ i - 1 := by omega
 go_enter Try.func155, Try.ntmps155
 go_wp2_with fail
 refine (hc1 _ h4).mono ?_
 rintro e w1 ⟨rfl, rfl⟩
 go_wp2_with fail
 refine (hc2 _ h4).mono ?_
 rintro e w1 ⟨rfl, rfl⟩
 go_wp2_with fail
 refine bodyPost_ret (v := .agg #[.int .i64 mo, .int .i64 c1, .int .u8 c2]) (by simp [results, Try.results155, go_sem]) rfl ⟨rfl, ?_⟩
 exact below_box _ _ _
theorem pre_iff (s p : ByteArray) : ((s.extract 0 p.size).toList == p.toList) = (bytes p).isPrefixOf (bytes s) := by
 rw [Bool.eq_iff_iff, beq_iff_eq, List.isPrefixOf_iff_prefix, List.prefix_iff_eq_take, bytes_len]
 have e1 : (s.extract 0 p.size).toList = s.data.toList.take p.size := by rw [ByteArray.toList_eq]; simp
 rw [e1, ByteArray.toList_eq]
 unfold bytes
 rw [← List.map_take]
 constructor
 ·
  intro e; rw [← e]
 ·
  intro e
  exact (List.map_inj_right (fun a b h => UInt8.toNat_inj.1 h)).1 e.symm
set_option maxRecDepth 10000 in
set_option maxHeartbeats 1000000 in
theorem slHas_any (s p : ByteArray) (w : World) :
  Calls Try.prog 160 #[.string s, .string p] w fun e w' => e = .returned (.bool ((bytes p).isPrefixOf (bytes s))) ∧ w = w' := by
 by_cases hle : p.size ≤ s.size
 ·
  have HV := Lib.hid (pre_iff s p)
  have h1 : (p.size : Int) ≤ (s.size : Int) := by omega
  go_enter Try.func160, Try.ntmps160
  go_wp2_with fail
  go_ret
  exact ⟨ret_bool HV.out, rfl⟩
 ·
  have HV : Hid ((bytes p).isPrefixOf (bytes s) = false) := by
   unfold Hid
   rw [Bool.eq_false_iff]
   intro h
   have := (List.isPrefixOf_iff_prefix.1 h).length_le
   rw [bytes_len, bytes_len] at this
   omega
  have h1 : ¬ (p.size : Int) ≤ (s.size : Int) := by omega
  go_enter Try.func160, Try.ntmps160
  go_wp2_with fail
  go_ret
  exact ⟨ret_bool HV.out.symm, rfl⟩
theorem has_any (s p : ByteArray) (w : World) :
  Calls Try.prog 128 #[.string s, .string p] w fun e w' => e = .returned (.bool ((bytes p).isPrefixOf (bytes s))) ∧ w = w' := by
 go_enter Try.func128, Try.ntmps128
 go_wp2_with fail
 refine (slHas_any s p _).mono ?_
 rintro e w1 ⟨rfl, rfl⟩
 go_wp2_with fail
 go_ret
 exact ⟨rfl, rfl⟩
end Go.Proofs.Ytpkdlljefkbmpaa

/-! Translation, purely: tables of costs by place and mode: what each step keeps, and what they say at last. -/
namespace Go.Proofs.Ytpkdlljefkbmpaa
open Go.RowKit Go.Maps
def imp : Nat := 9223372036854775803
theorem imp_big : 2 ^ 50 < imp := by decide
abbrev Tb := Nat → Nat → Nat
def Tb.put (h : Tb) (i mo v : Nat) : Tb := fun a b => if a = i ∧ b = mo then v else h a b
theorem put_same (h : Tb) (i mo v : Nat) : h.put i mo v i mo = v := by unfold Tb.put; rw [if_pos ⟨rfl, rfl⟩]
theorem put_row (h : Tb) (i mo v a b : Nat) (ha : a ≠ i) : h.put i mo v a b = h a b := by unfold Tb.put; rw [if_neg (fun e => ha e.1)]
theorem put_col (h : Tb) (i mo v b : Nat) (hb : b ≠ mo) : h.put i mo v i b = h i b := by unfold Tb.put; rw [if_neg (fun e => hb e.2)]
def byV (h : Tb) (s : List Nat) (x : Rule) (i : Nat) : Nat := if folB s x i = true then x.c.length + h (i + x.p.size) x.t.toNat else imp
def RowR (a : Int) (rs : List Rule) (s : List Nat) (M : Nat) (h : Tb) (i : Nat) : Prop := ∀ mo, mo < M → h i mo ≤ imp ∧ (h i mo < imp → ∃ ks, GdE (edgP rs s) (finP a s) (i, (mo : Int)) ks ∧ cstE (cstR rs) ks = h i mo) ∧ (finP a s (i, (mo : Int)) = true → h i mo = 0)
def RowC (rs : List Rule) (s : List Nat) (h : Tb) (i : Nat) (P : Nat → Prop) : Prop := ∀ j (hj : j < rs.length), P j → h i rs[j].f.toNat ≤ byV h s rs[j] i
theorem modes_ok {m a : Int} {rs : List Rule} (hG : GoodL m a rs) {x : Rule} (hx : x ∈ rs) : (0 ≤ x.f ∧ x.f < m) ∧ (0 ≤ x.t ∧ x.t < m) := by
 have h1 := hG.2.2 x hx
 unfold soundB modeB at h1
 simp only [Bool.and_eq_true, decide_eq_true_eq] at h1
 omega
theorem edgP_ok {m a : Int} {rs : List Rule} (hG : GoodL m a rs) {s : List Nat} {v u : Nat × Int} {k : Int} (hv : v.1 ≤ s.length) (h : edgP rs s v k = some u) : u.1 ≤ s.length ∧ 0 ≤ u.2 ∧ u.2 < m ∧ v.1 ≤ u.1 := by
 obtain ⟨j, rfl, hj, h1, h2, rfl⟩ := edgP_some h
 have h3 := (pre_split (fol_pre h2) hv).2.2
 rw [← size_len] at h3
 have h4 := (modes_ok hG (List.getElem_mem hj)).2
 exact ⟨h3, h4.1, h4.2, Nat.le_add_right _ _⟩
theorem edgP_cst {m a : Int} {rs : List Rule} (hG : GoodL m a rs) {s : List Nat} (v : Nat × Int) (k : Int) (u : Nat × Int) (h : edgP rs s v k = some u) : 1 ≤ cstR rs k ∧ cstR rs k ≤ 4 := by
 obtain ⟨j, rfl, hj, _⟩ := edgP_some h
 unfold cstR
 rw [rule_at hj]
 have := sound_sizes hG (List.getElem_mem hj)
 exact this.2
theorem putR {m a : Int} {rs : List Rule} (hG : GoodL m a rs) {s : List Nat} {M : Nat} (hM : m = M) {h : Tb} {i j : Nat} (hi : i ≤ s.length) (hj : j < rs.length) (hall : ∀ i', i ≤ i' → i' ≤ s.length → RowR a rs s M h i') (hlt : byV h s rs[j] i < h i rs[j].f.toNat) : ∀ i', i ≤ i' → i' ≤ s.length → RowR a rs s M (h.put i rs[j].f.toNat (byV h s rs[j] i)) i' := by
 obtain ⟨⟨f0, f1⟩, t0, t1⟩ := modes_ok hG (List.getElem_mem hj)
 have ef : rs[j].f = ((rs[j].f.toNat : Nat) : Int) := by omega
 have et : ((rs[j].t.toNat : Nat) : Int) = rs[j].t := by omega
 intro i' h1 h2
 by_cases e : i' = i
 ·
  subst e
  intro mo hmo
  by_cases e2 : mo = rs[j].f.toNat
  ·
   subst e2
   obtain ⟨g1, g2, g3⟩ := hall i' h1 h2 _ hmo
   rw [put_same]
   refine ⟨by omega, fun h4 => ?_, fun h4 => ?_⟩
   ·
    have h5 : folB s rs[j] i' = true := by
     cases hf : folB s rs[j] i' with
     | true => rfl
     | false => unfold byV at h4; rw [hf] at h4; simp at h4
    have hb : byV h s rs[j] i' = rs[j].c.length + h (i' + rs[j].p.size) rs[j].t.toNat := by unfold byV; rw [if_pos h5]
    have h6 := (pre_split (fol_pre h5) h2).2.2
    rw [← size_len] at h6
    obtain ⟨_, g5, _⟩ := hall (i' + rs[j].p.size) (by omega) h6 rs[j].t.toNat (by omega)
    obtain ⟨ks, k1, k2⟩ := g5 (by omega)
    rw [et] at k1
    refine ⟨(j : Int) :: ks, gdE_cons.2 ⟨_, edgP_mk (v := (i', ((rs[j].f.toNat : Nat) : Int))) hj ef h5, k1⟩, ?_⟩
    have h7 : cstR rs (j : Int) = rs[j].c.length := by unfold cstR; rw [rule_at hj]
    simp only [cstE, k2, hb, h7]
   ·
    have := g3 h4; omega
  ·
   have g := hall i' h1 h2 mo hmo
   rw [put_col _ _ _ _ _ e2]
   exact g
 ·
  intro mo hmo
  have g := hall i' h1 h2 mo hmo
  rw [put_row _ _ _ _ _ _ e]
  exact g
theorem put_by {h : Tb} {s : List Nat} {x : Rule} {i mo v : Nat} (hp : x.p.size ≠ 0) : byV (h.put i mo v) s x i = byV h s x i := by
 unfold byV
 split
 ·
  rw [put_row _ _ _ _ _ _ (by omega)]
 ·
  rfl
theorem put_low {h : Tb} {i mo v b : Nat} (hv : v < h i mo) : h.put i mo v i b ≤ h i b := by
 by_cases e : b = mo
 ·
  subst e; rw [put_same]; omega
 ·
  rw [put_col _ _ _ _ _ e]; exact Nat.le_refl _
theorem putC {rs : List Rule} {s : List Nat} {h : Tb} {i mo v : Nat} {P : Nat → Prop} (hc : RowC rs s h i P) (hP : ∀ j (hj : j < rs.length), P j → rs[j].p.size ≠ 0) (hv : v < h i mo) : RowC rs s (h.put i mo v) i P := fun j hj hp => by
 rw [put_by (hP j hj hp)]
 exact Nat.le_trans (put_low hv) (hc j hj hp)
def sumTo (f : Nat → Nat) : Nat → Nat
 | 0 => 0
 | n + 1 => sumTo f n + f n
theorem sum_congr {f g : Nat → Nat} : ∀ n, (∀ b, b < n → g b = f b) → sumTo g n = sumTo f n := by
 intro n
 induction n with
 | zero => intro _; rfl
 | succ n ih => intro h; unfold sumTo; rw [ih (fun b hb => h b (by omega)), h n (by omega)]
theorem sum_put {h : Tb} {i mo v : Nat} : ∀ n, mo < n → v < h i mo → sumTo (h.put i mo v i) n < sumTo (h i) n := by
 intro n
 induction n with
 | zero => intro h1; omega
 | succ n ih =>
  intro h1 h2
  unfold sumTo
  by_cases e : mo = n
  ·
   subst e
   rw [put_same, sum_congr mo (fun b hb => put_col h i mo v b (by omega))]
   omega
  ·
   have := ih (by omega) h2
   rw [put_col h i mo v n (fun g => e g.symm)]
   omega
def nodesP (n M : Nat) : List (Nat × Int) := (List.range (n + 1)).flatMap fun i => (List.range M).map fun mo : Nat => (i, (mo : Int))
theorem nodesP_mem {n M : Nat} {v : Nat × Int} : v ∈ nodesP n M ↔ v.1 ≤ n ∧ 0 ≤ v.2 ∧ v.2 < (M : Int) := by
 unfold nodesP
 rw [List.mem_flatMap]
 constructor
 ·
  rintro ⟨i, hi, h⟩
  obtain ⟨mo, hmo, rfl⟩ := List.mem_map.1 h
  rw [List.mem_range] at hi hmo
  exact ⟨by show i ≤ n; omega, by show (0 : Int) ≤ (mo : Int); omega, by show (mo : Int) < (M : Int); omega⟩
 ·
  rintro ⟨h1, h2, h3⟩
  refine ⟨v.1, List.mem_range.2 (by omega), List.mem_map.2 ⟨v.2.toNat, List.mem_range.2 (by omega), ?_⟩⟩
  rw [show ((v.2.toNat : Nat) : Int) = v.2 from by omega]
theorem nodesP_len (n M : Nat) : (nodesP n M).length = (n + 1) * M := by
 unfold nodesP
 rw [List.length_flatMap]
 simp only [List.length_map, List.length_range]
 rw [List.map_const', List.sum_replicate_nat, List.length_range]
structure TabOk (a : Int) (rs : List Rule) (s : List Nat) (M : Nat) (h : Tb) : Prop where
 low : ∀ i mo, i ≤ s.length → mo < M → ∀ ks, GdE (edgP rs s) (finP a s) (i, (mo : Int)) ks → h i mo ≤ cstE (cstR rs) ks
 real : ∀ i mo, i ≤ s.length → mo < M → h i mo < imp → ∃ ks, GdE (edgP rs s) (finP a s) (i, (mo : Int)) ks ∧ cstE (cstR rs) ks = h i mo
 none : ∀ i mo, i ≤ s.length → mo < M → h i mo = imp → ∀ ks, ¬ GdE (edgP rs s) (finP a s) (i, (mo : Int)) ks
 top : ∀ i mo, i ≤ s.length → mo < M → h i mo ≤ imp
 edge : ∀ i j (hj : j < rs.length), i ≤ s.length → h i rs[j].f.toNat ≤ byV h s rs[j] i
theorem tab_ok {m a : Int} {rs : List Rule} (hG : GoodL m a rs) {s : List Nat} {M : Nat} (hM : m = M) (hM8 : M ≤ 8) (hs : s.length < 2 ^ 40) {h : Tb} (hR : ∀ i, i ≤ s.length → RowR a rs s M h i) (hC : ∀ i, i ≤ s.length → RowC rs s h i (fun _ => True)) : TabOk a rs s M h := by
 have hlow : ∀ i mo, i ≤ s.length → mo < M → ∀ ks, GdE (edgP rs s) (finP a s) (i, (mo : Int)) ks → h i mo ≤ cstE (cstR rs) ks := fun i mo hi hmo ks hg => by
  have := low_of_closed (E := edgP rs s) (c := cstR rs) (F := finP a s) (P := fun v => v.1 ≤ s.length ∧ 0 ≤ v.2 ∧ v.2 < m) (h := fun v => h v.1 v.2.toNat)
   (fun v k u hv he => by obtain ⟨g1, g2, g3, _⟩ := edgP_ok hG hv.1 he; exact ⟨g1, g2, g3⟩)
   (fun v hv he => (hR v.1 hv.1 v.2.toNat (by omega)).2.2 (by rw [show ((v.2.toNat : Nat) : Int) = v.2 from by omega]; exact he))
   (fun v k u hv he => by
    obtain ⟨j, rfl, hj, h1, h2, rfl⟩ := edgP_some he
    have h3 := hC v.1 hv.1 j hj trivial
    rw [h1] at h3
    unfold byV at h3
    rw [if_pos h2] at h3
    have h7 : cstR rs (j : Int) = rs[j].c.length := by unfold cstR; rw [rule_at hj]
    rw [h7]
    exact h3)
   ks (i, (mo : Int)) ⟨hi, by show (0 : Int) ≤ (mo : Int); omega, by show (mo : Int) < m; omega⟩ hg
  exact this
 refine ⟨hlow, fun i mo hi hmo => (hR i hi mo hmo).2.1, fun i mo hi hmo he ks hg => ?_, fun i mo hi hmo => (hR i hi mo hmo).1, fun i j hj hi => hC i hi j hj trivial⟩
 obtain ⟨ls, hls⟩ := minE_ex (c := cstR rs) ⟨ks, hg⟩
 have h1 := hlow i mo hi hmo ls hls.1
 have h2 := minE_bound (L := nodesP s.length M) (C := 4) (edgP_cst hG)
  (fun v k u hv he => by
   obtain ⟨g1, g2, g3, _⟩ := edgP_ok hG (nodesP_mem.1 hv).1 he
   exact nodesP_mem.2 ⟨g1, g2, by omega⟩)
  (v := (i, (mo : Int))) (nodesP_mem.2 ⟨hi, by show (0 : Int) ≤ (mo : Int); omega, by show (mo : Int) < (M : Int); omega⟩) hls
 rw [nodesP_len] at h2
 have h3 : (s.length + 1) * M ≤ (s.length + 1) * 8 := Nat.mul_le_mul_left _ hM8
 have h4 := imp_big
 omega
def KeepP (rs : List Rule) (s : List Nat) (h : Tb) (i mo j : Nat) : Prop := ∃ hj : j < rs.length, rs[j].f = (mo : Int) ∧ byV h s rs[j] i = h i mo
section
variable {m a : Int} {rs : List Rule} {s : List Nat} {M : Nat} {h : Tb}
theorem keep_edge {i mo j : Nat} (hlt : h i mo < imp) (hk : KeepP rs s h i mo j) : ∃ hj : j < rs.length, edgP rs s (i, (mo : Int)) (j : Int) = some (i + rs[j].p.size, rs[j].t) ∧ rs[j].c.length + h (i + rs[j].p.size) rs[j].t.toNat = h i mo ∧ cstR rs (j : Int) = rs[j].c.length := by
 obtain ⟨hj, h1, h2⟩ := hk
 unfold byV at h2
 split at h2
 ·
  rename_i h3
  exact ⟨hj, edgP_mk hj h1 h3, h2, by unfold cstR; rw [rule_at hj]⟩
 ·
  omega
theorem keep_ex (hG : GoodL m a rs) (hM : m = M) (T : TabOk a rs s M h) {i mo : Nat} (hi : i ≤ s.length) (hmo : mo < M) (hlt : h i mo < imp) (hpos : 0 < h i mo) : ∃ j, KeepP rs s h i mo j := by
 obtain ⟨ks, h1, h2⟩ := T.real i mo hi hmo hlt
 cases ks with
 | nil => simp only [cstE] at h2; omega
 | cons k r =>
  obtain ⟨u, h3, h4⟩ := gdE_cons.1 h1
  obtain ⟨g1, g2, g3, _⟩ := edgP_ok hG (v := (i, (mo : Int))) hi h3
  obtain ⟨j, rfl, hj, h5, h6, rfl⟩ := edgP_some h3
  have h7 : cstR rs (j : Int) = rs[j].c.length := by unfold cstR; rw [rule_at hj]
  have h8 := T.edge i j hj hi
  dsimp only at h5 h6 g1 g2 g3 h4
  rw [h5] at h8
  have hb : byV h s rs[j] i = rs[j].c.length + h (i + rs[j].p.size) rs[j].t.toNat := by unfold byV; rw [if_pos h6]
  have h9 := T.low (i + rs[j].p.size) rs[j].t.toNat g1 (by omega) r (by rw [show ((rs[j].t.toNat : Nat) : Int) = rs[j].t from by omega]; exact h4)
  simp only [cstE, h7] at h2
  refine ⟨j, hj, h5, ?_⟩
  have h10 : h i ((mo : Int)).toNat = h i mo := rfl
  rw [h10] at h8
  omega
theorem best_cost (T : TabOk a rs s M h) {i mo : Nat} (hi : i ≤ s.length) (hmo : mo < M) (hlt : h i mo < imp) {r : List Int} (hb : MinE (edgP rs s) (cstR rs) (finP a s) (i, (mo : Int)) r) : cstE (cstR rs) r = h i mo := by
 obtain ⟨ks, h1, h2⟩ := T.real i mo hi hmo hlt
 have h3 := hb.2 ks h1
 have h4 := T.low i mo hi hmo r hb.1
 omega
theorem keep_best (hG : GoodL m a rs) (hM : m = M) (T : TabOk a rs s M h) {i mo j : Nat} (hi : i ≤ s.length) (hmo : mo < M) (hlt : h i mo < imp) (hpos : 0 < h i mo) (hk : KeepP rs s h i mo j) (hfst : ∀ j', j' < j → ¬ KeepP rs s h i mo j') {r : List Int} {u : Nat × Int} (hu : edgP rs s (i, (mo : Int)) (j : Int) = some u) (hb : BestE (edgP rs s) (cstR rs) (finP a s) u r) : BestE (edgP rs s) (cstR rs) (finP a s) (i, (mo : Int)) ((j : Int) :: r) := by
 obtain ⟨hj, h1, h2, h3⟩ := keep_edge hlt hk
 rw [h1] at hu
 cases hu
 obtain ⟨g1, g2, g3, _⟩ := edgP_ok hG (v := (i, (mo : Int))) hi h1
 dsimp only at g1 g2 g3
 have ht : ((rs[j].t.toNat : Nat) : Int) = rs[j].t := by omega
 refine bestE_cons (h := fun v => h v.1 v.2.toNat) h1 (by rw [h3]; exact h2) hpos ?_ ?_ ?_ ?_ hb
 ·
  intro x ks _ hg y hy
  obtain ⟨q1, q2, q3, _⟩ := edgP_ok hG (v := (i, (mo : Int))) hi hy
  obtain ⟨j', rfl, hj', e1, e2, rfl⟩ := edgP_some hy
  have h7 : cstR rs (j' : Int) = rs[j'].c.length := by unfold cstR; rw [rule_at hj']
  obtain ⟨z, z1, z2⟩ := gdE_cons.1 hg
  rw [hy] at z1
  cases z1
  dsimp only at q1 q2 q3 e1 e2 ⊢
  refine ⟨T.low _ rs[j'].t.toNat q1 (by omega) ks (by rw [show ((rs[j'].t.toNat : Nat) : Int) = rs[j'].t from by omega]; exact z2), ?_⟩
  have h8 := T.edge i j' hj' hi
  rw [e1] at h8
  unfold byV at h8
  rw [if_pos e2] at h8
  rw [h7]
  exact h8
 ·
  intro x y hy he
  obtain ⟨j', rfl, hj', e1, e2, rfl⟩ := edgP_some hy
  have h7 : cstR rs (j' : Int) = rs[j'].c.length := by unfold cstR; rw [rule_at hj']
  rcases Nat.lt_or_ge j' j with g | g
  ·
   refine absurd ⟨hj', e1, ?_⟩ (hfst j' g)
   unfold byV
   rw [if_pos e2, ← h7]
   exact he
  ·
   omega
 ·
  intro hF
  have h4 := T.low i mo hi hmo [] (gdE_nil.2 hF)
  simp only [cstE] at h4
  show h i mo = 0
  omega
 ·
  exact best_cost T (i := i + rs[j].p.size) (mo := rs[j].t.toNat) g1 (by omega) (by omega) (by rw [ht]; exact hb.min)
def PartW (a : Int) (rs : List Rule) (s : List Nat) (ks : List Int) (i mo : Nat) : Prop := goE (edgP rs s) (0, 0) ks = some (i, (mo : Int)) ∧ ∀ r, BestE (edgP rs s) (cstR rs) (finP a s) (i, (mo : Int)) r → BestE (edgP rs s) (cstR rs) (finP a s) (0, 0) (ks ++ r)
theorem part_nil : PartW a rs s [] 0 0 := ⟨rfl, fun _ h => h⟩
theorem part_snoc (hG : GoodL m a rs) (hM : m = M) (T : TabOk a rs s M h) {ks : List Int} {i mo j : Nat} (hi : i ≤ s.length) (hmo : mo < M) (hlt : h i mo < imp) (hpos : 0 < h i mo) (hk : KeepP rs s h i mo j) (hfst : ∀ j', j' < j → ¬ KeepP rs s h i mo j') (hp : PartW a rs s ks i mo) (hj : j < rs.length) : PartW a rs s (ks ++ [(j : Int)]) (i + rs[j].p.size) rs[j].t.toNat := by
 obtain ⟨hj, h1, h2, h3⟩ := keep_edge hlt hk
 obtain ⟨g1, g2, g3, _⟩ := edgP_ok hG (v := (i, (mo : Int))) hi h1
 dsimp only at g1 g2 g3
 have ht : ((rs[j].t.toNat : Nat) : Int) = rs[j].t := by omega
 refine ⟨?_, fun r hr => ?_⟩
 ·
  rw [goE_app, hp.1, ht]
  show goE (edgP rs s) (i, (mo : Int)) [(j : Int)] = _
  rw [goE_cons]
  exact ⟨_, h1, rfl⟩
 ·
  rw [ht] at hr
  rw [List.append_assoc]
  exact hp.2 _ (keep_best hG hM T hi hmo hlt hpos hk hfst h1 hr)
theorem part_end (hG : GoodL m a rs) (T : TabOk a rs s M h) {ks : List Int} {i mo : Nat} (hi : i ≤ s.length) (hmo : mo < M) (h0 : h i mo = 0) (hp : PartW a rs s ks i mo) : BestE (edgP rs s) (cstR rs) (finP a s) (0, 0) ks := by
 obtain ⟨ls, h1, h2⟩ := T.real i mo hi hmo (by rw [h0]; decide)
 have h3 := hp.2 [] (bestE_nil (fun v k u e => (edgP_cst hG v k u e).1) h1 (by rw [h2, h0]))
 rw [List.append_nil] at h3
 exact h3
end
def MetP (rs : List Rule) (s : List Nat) (v : Nat × Int) : Prop := ∃ ks, goE (edgP rs s) (0, 0) ks = some v
theorem met_start {rs : List Rule} {s : List Nat} : MetP rs s (0, 0) := ⟨[], rfl⟩
theorem met_step {rs : List Rule} {s : List Nat} {v u : Nat × Int} {k : Int} (h : MetP rs s v) (he : edgP rs s v k = some u) : MetP rs s u := by
 obtain ⟨ks, h⟩ := h
 refine ⟨ks ++ [k], ?_⟩
 rw [goE_app, h]
 show goE (edgP rs s) v [k] = _
 rw [goE_cons]
 exact ⟨u, he, rfl⟩
theorem met_all {rs : List Rule} {s : List Nat} {P : Nat × Int → Prop} (h0 : P (0, 0)) (hc : ∀ v k u, P v → edgP rs s v k = some u → P u) {v : Nat × Int} (h : MetP rs s v) : P v := by
 obtain ⟨ks, h⟩ := h
 have key : ∀ (ks : List Int) (v u : Nat × Int), P v → goE (edgP rs s) v ks = some u → P u := by
  intro ks
  induction ks with
  | nil => intro v u hv h; cases h; exact hv
  | cons k r ih =>
   intro v u hv h
   obtain ⟨x, h1, h2⟩ := goE_cons.1 h
   exact ih x u (hc v k x hv h1) h2
 exact key ks _ _ h0 h
def TopP (rs : List Rule) (s : List Nat) (g : Nat) : Prop := (∃ mo, MetP rs s (g, mo)) ∧ ∀ v, MetP rs s v → v.1 ≤ g
end Go.Proofs.Ytpkdlljefkbmpaa

/-! Package translate: the greatest place that is reached, purely. -/
namespace Go.Proofs.Ytpkdlljefkbmpaa
open Go.RowKit Go.Maps
def idxP (M : Nat) (u : Nat × Int) : Nat := u.1 * M + u.2.toNat
theorem idx_inv {M i mo : Nat} (h : mo < M) : (i * M + mo) / M = i ∧ (i * M + mo) % M = mo := by
 have hM : 0 < M := by omega
 constructor
 ·
  rw [Nat.mul_comm, Nat.mul_add_div hM, Nat.div_eq_of_lt h, Nat.add_zero]
 ·
  rw [Nat.mul_comm, Nat.mul_add_mod, Nat.mod_eq_of_lt h]
theorem idx_lt {M L : Nat} {u : Nat × Int} (h1 : u.1 ≤ L) (h2 : 0 ≤ u.2) (h3 : u.2 < (M : Int)) : idxP M u < (L + 1) * M := by
 unfold idxP
 have h4 : u.1 * M ≤ L * M := Nat.mul_le_mul_right M h1
 rw [Nat.add_mul, Nat.one_mul]
 omega
theorem idx_node {M : Nat} {u : Nat × Int} (h2 : 0 ≤ u.2) (h3 : u.2 < (M : Int)) : ((idxP M u) / M, (((idxP M u) % M : Nat) : Int)) = u := by
 unfold idxP
 obtain ⟨e1, e2⟩ := idx_inv (M := M) (i := u.1) (mo := u.2.toNat) (by omega)
 rw [e1, e2]
 obtain ⟨a, b⟩ := u
 dsimp only at h2 ⊢
 rw [show ((b.toNat : Nat) : Int) = b from by omega]
structure RcI (rs : List Rule) (l : List Nat) (M : Nat) (p : Aw) (G : Nat) (skip : Nat → Prop) : Prop where
 len : p.1.length = (l.length + 1) * M
 met : ∀ k : Nat, p.1[k]? = some true → MetP rs l (k / M, ((k % M : Nat) : Int))
 que : ∀ k ∈ p.2, p.1[k]? = some true
 pro : ∀ k : Nat, p.1[k]? = some true → k ∉ p.2 → ¬ skip k → k / M ≤ G ∧ ∀ j u, edgP rs l (k / M, ((k % M : Nat) : Int)) j = some u → p.1[idxP M u]? = some true
 top : ∃ mo, MetP rs l (G, mo)
 zer : p.1[0]? = some true
section
variable {rs : List Rule} {l : List Nat} {M : Nat} {p : Aw} {G : Nat} {skip : Nat → Prop}
theorem wk_mono {k j : Nat} (h : p.1[k]? = some true) : (wakeL p j).1[k]? = some true := wake_mono h
theorem RcI.wake (H : RcI rs l M p G skip) {u : Nat × Int} (hu : MetP rs l u) (h1 : u.1 ≤ l.length) (h2 : 0 ≤ u.2) (h3 : u.2 < (M : Int)) : RcI rs l M (wakeL p (idxP M u)) G skip ∧ (wakeL p (idxP M u)).1[idxP M u]? = some true := by
 have hlt : idxP M u < p.1.length := by rw [H.len]; exact idx_lt h1 h2 h3
 cases hg : p.1.getD (idxP M u) true with
 | true =>
  rw [wakeL_yes hg]
  refine ⟨H, ?_⟩
  rw [List.getD_eq_getElem?_getD, List.getElem?_eq_getElem hlt, Option.getD_some] at hg
  rw [List.getElem?_eq_getElem hlt, hg]
 | false =>
  rw [wakeL_no hg]
  have hset : ∀ k : Nat, (p.1.set (idxP M u) true)[k]? = some true ↔ (k = idxP M u ∨ p.1[k]? = some true) := fun k => by
   by_cases e : idxP M u = k
   ·
    subst e
    rw [List.getElem?_set_self hlt]
    simp
   ·
    rw [List.getElem?_set_ne e]
    constructor
    ·
     exact .inr
    ·
     rintro (h | h)
     ·
      exact absurd h.symm e
     ·
      exact h
  refine ⟨⟨?_, fun k hk => ?_, fun k hk => ?_, fun k hk hq hs => ?_, H.top, ?_⟩, ?_⟩
  ·
   simpa using H.len
  ·
   rcases (hset k).1 hk with e | e
   ·
    subst e; rw [idx_node h2 h3]; exact hu
   ·
    exact H.met k e
  ·
   rcases List.mem_append.1 hk with e | e
   ·
    exact (hset k).2 (.inr (H.que k e))
   ·
    exact (hset k).2 (.inl (by simpa using e))
  ·
   rw [List.mem_append, not_or] at hq
   have hne : k ≠ idxP M u := fun e => hq.2 (by simp [e])
   have hk2 := ((hset k).1 hk).resolve_left hne
   obtain ⟨q1, q2⟩ := H.pro k hk2 hq.1 hs
   exact ⟨q1, fun j u' he => (hset _).2 (.inr (q2 j u' he))⟩
  ·
   exact (hset 0).2 (.inr H.zer)
  ·
   exact (hset _).2 (.inl rfl)
theorem RcI.pop {m : List Bool} {q : List Nat} {k : Nat} (H : RcI rs l M (m, q ++ [k]) G (fun _ => False)) : RcI rs l M (m, q) (max G (k / M)) (fun x => x = k) ∧ m[k]? = some true := by
 have hk : m[k]? = some true := H.que k (by simp)
 refine ⟨⟨H.len, H.met, fun x hx => H.que x (by simp [hx]), fun x hx hq hs => ?_, ?_, H.zer⟩, hk⟩
 ·
  obtain ⟨q1, q2⟩ := H.pro x hx (by
   show x ∉ q ++ [k]
   rw [List.mem_append, not_or]
   exact ⟨hq, by simpa using hs⟩) (fun h => h)
  exact ⟨by omega, q2⟩
 ·
  rcases Nat.le_total (k / M) G with h | h
  ·
   rw [Nat.max_eq_left h]; exact H.top
  ·
   rw [Nat.max_eq_right h]; exact ⟨_, H.met k hk⟩
theorem RcI.done {k : Nat} (H : RcI rs l M p G (fun x => x = k)) (hG : k / M ≤ G) (hd : ∀ j u, edgP rs l (k / M, ((k % M : Nat) : Int)) j = some u → p.1[idxP M u]? = some true) : RcI rs l M p G (fun _ => False) :=
 ⟨H.len, H.met, H.que, fun x hx hq _ => by
  by_cases e : x = k
  ·
   subst e; exact ⟨hG, hd⟩
  ·
   exact H.pro x hx hq e, H.top, H.zer⟩
theorem RcI.top_of {m a : Int} (hG : GoodL m a rs) (hM : m = M) (hM1 : 1 ≤ M) {b : List Bool} (H : RcI rs l M (b, []) G (fun _ => False)) : TopP rs l G := by
 refine ⟨H.top, fun v hv => ?_⟩
 have key := met_all (P := fun v => v.1 ≤ l.length ∧ 0 ≤ v.2 ∧ v.2 < (M : Int) ∧ b[idxP M v]? = some true) ⟨Nat.zero_le _, Int.le_refl _, by omega, by have h := H.zer; simpa [idxP] using h⟩ (fun v k u hp he => by
  obtain ⟨h1, h2, h3, h4⟩ := hp
  obtain ⟨g1, g2, g3, _⟩ := edgP_ok hG h1 he
  refine ⟨g1, g2, by omega, ?_⟩
  have h5 := (H.pro (idxP M v) h4 (by simp) (fun h => h)).2
  rw [idx_node h2 h3] at h5
  exact h5 k u he) hv
 obtain ⟨_, h2, h3, h4⟩ := key
 have h5 := (H.pro (idxP M v) h4 (by simp) (fun h => h)).1
 have e := idx_node h2 h3
 have e1 : idxP M v / M = v.1 := congrArg Prod.fst e
 rw [e1] at h5
 exact h5
theorem rc_start (hM1 : 1 ≤ M) : RcI rs l M (wakeL (List.replicate ((l.length + 1) * M) false, []) 0) 0 (fun _ => False) := by
 have hlen : 0 < (l.length + 1) * M := Nat.mul_pos (by omega) (by omega)
 have hg : (List.replicate ((l.length + 1) * M) false).getD 0 true = false := by
  rw [List.getD_eq_getElem?_getD, List.getElem?_replicate, if_pos hlen]; rfl
 rw [wakeL_no (p := (List.replicate ((l.length + 1) * M) false, [])) hg]
 have hset : ∀ k : Nat, ((List.replicate ((l.length + 1) * M) false).set 0 true)[k]? = some true → k = 0 := fun k hk => by
  by_cases e : 0 = k
  ·
   exact e.symm
  ·
   rw [List.getElem?_set_ne e, List.getElem?_replicate] at hk
   split at hk <;> simp at hk
 have hz : ((List.replicate ((l.length + 1) * M) false).set 0 true)[0]? = some true := by
  rw [List.getElem?_set_self (by simpa using hlen)]
 refine ⟨by simp, fun k hk => ?_, fun k hk => ?_, fun k hk hq _ => ?_, ⟨_, met_start⟩, hz⟩
 ·
  have e := hset k hk
  subst e
  rw [Nat.zero_div, Nat.zero_mod]
  exact met_start
 ·
  have e : k = 0 := by simpa using hk
  rw [e]; exact hz
 ·
  have e := hset k hk
  subst e
  exact absurd (by simp) hq
def muP (p : Aw) : Nat := 2 * p.1.count false + p.2.length
theorem mu_wake (p : Aw) (k : Nat) : muP (wakeL p k) ≤ muP p := by
 cases hg : p.1.getD k true with
 | true => rw [wakeL_yes hg]; exact Nat.le_refl _
 | false =>
  rw [wakeL_no hg]
  unfold muP
  have hk : k < p.1.length := by
   rcases Nat.lt_or_ge k p.1.length with h | h
   ·
    exact h
   ·
    rw [List.getD_eq_getElem?_getD, List.getElem?_eq_none h] at hg; cases hg
  have hv : p.1[k] = false := by
   rw [List.getD_eq_getElem?_getD, List.getElem?_eq_getElem hk, Option.getD_some] at hg; exact hg
  have h1 := List.count_set (a := true) (b := false) (l := p.1) (i := k) hk
  have h2 : 0 < p.1.count false := List.count_pos_iff.2 (by rw [← hv]; exact List.getElem_mem hk)
  rw [hv] at h1
  simp only [List.length_append, List.length_singleton]
  simp at h1
  omega
end
end Go.Proofs.Ytpkdlljefkbmpaa
