/- Merged by program: Tp1 OpenA OpenB Lp1a Lp1 -/
import Derived.Test.YtghjpblfneldcaaT9
import Derived.Test.YtghjpblfneldcaaT4
import Derived.Test.YtghjpblfneldcaaQ22
import Derived.WalkKit
import Derived.ProofKit
import Derived.OpenShut
import Derived.ChangeOld
import Derived.Below
import Derived.Test.YtghjpblfneldcaaT7
import Derived.Test.YtghjpblfneldcaaQ13
import Derived.Test.YtghjpblfneldcaaQ23

/-! Costs in a table of one mode whose rules stand anywhere, purely. -/
namespace Go.Proofs.Ytghjpblfneldcaa
open Go.RowKit Go.Maps
/-- Rules of the first mode that stand anywhere. -/
def FreeR (rs : List Rule) : Prop := ∀ x ∈ rs, x.l = 63 ∧ x.r = 63 ∧ x.f = 0 ∧ x.t = 0
def InN (rs : List Rule) (ks : List Int) : Prop := ∀ k ∈ ks, 0 ≤ k ∧ k < (rs.length : Int)
theorem edg_free {rs : List Rule} (hF : FreeR rs) {s : List Nat} {i : Nat} {k : Int} {u : Nat × Int} : edgP rs s (i, 0) k = some u ↔ ((0 ≤ k ∧ k < (rs.length : Int)) ∧ (bytes (ruleOf rs k).p).isPrefixOf (s.drop i) = true ∧ u = (i + (ruleOf rs k).p.size, 0)) := by
  unfold edgP
  constructor
  · intro h
    split at h
    · rename_i hc
      obtain ⟨h1, _, h3⟩ := hc
      have hm : ruleOf rs k ∈ rs := by
        obtain ⟨j, rfl⟩ : ∃ j : Nat, k = j := ⟨k.toNat, by omega⟩
        rw [rule_at (by omega)]
        exact List.getElem_mem _
      obtain ⟨_, _, _, f4⟩ := hF _ hm
      unfold folB at h3
      rw [Bool.and_eq_true] at h3
      rw [f4] at h
      exact ⟨h1, h3.1, (Option.some.inj h).symm⟩
    · cases h
  · rintro ⟨h1, h2, rfl⟩
    have hm : ruleOf rs k ∈ rs := by
      obtain ⟨j, rfl⟩ : ∃ j : Nat, k = j := ⟨k.toNat, by omega⟩
      rw [rule_at (by omega)]
      exact List.getElem_mem _
    obtain ⟨f1, f2, f3, f4⟩ := hF _ hm
    have hb1 := lcl_bd (s.take i)
    have hb2 := fcl_bd (s.drop (i + (ruleOf rs k).p.size))
    rw [if_pos ⟨h1, f3, by unfold folB; rw [h2, f1, f2, bit_63 _ hb1.1 hb1.2, bit_63 _ hb2.1 hb2.2]; rfl⟩, f4]
theorem prt_cons (rs : List Rule) (k : Int) (ks : List Int) : prtL rs (k :: ks) = bytes (ruleOf rs k).p ++ prtL rs ks := by
  unfold prtL; rw [List.flatMap_cons]
theorem go_free {rs : List Rule} (hF : FreeR rs) {s : List Nat} : ∀ (ks : List Int) (i : Nat) (u : Nat × Int), goE (edgP rs s) (i, 0) ks = some u ↔ (InN rs ks ∧ (prtL rs ks).isPrefixOf (s.drop i) = true ∧ u = (i + (prtL rs ks).length, 0)) := by
  intro ks
  induction ks with
  | nil =>
    intro i u
    constructor
    · intro h; cases h
      exact ⟨fun _ h => (by cases h), rfl, rfl⟩
    · rintro ⟨_, _, rfl⟩; rfl
  | cons k r ih =>
    intro i u
    rw [goE_cons, prt_cons]
    constructor
    · rintro ⟨x, h1, h2⟩
      obtain ⟨g1, g2, rfl⟩ := (edg_free hF).1 h1
      obtain ⟨g3, g4, rfl⟩ := (ih _ _).1 h2
      rw [size_len] at g4 ⊢
      refine ⟨fun z hz => ?_, ?_, by rw [List.length_append, Nat.add_assoc]⟩
      · rcases List.mem_cons.1 hz with rfl | h
        · exact g1
        · exact g3 z h
      · obtain ⟨t, ht⟩ := List.isPrefixOf_iff_prefix.1 g2
        obtain ⟨t2, ht2⟩ := List.isPrefixOf_iff_prefix.1 g4
        rw [← List.drop_drop, ← ht] at ht2
        rw [List.isPrefixOf_iff_prefix, ← ht]
        simp only [List.drop_left] at ht2
        exact ⟨t2, by rw [List.append_assoc, ht2]⟩
    · rintro ⟨g1, g2, rfl⟩
      obtain ⟨t, ht⟩ := List.isPrefixOf_iff_prefix.1 g2
      rw [List.append_assoc] at ht
      refine ⟨_, (edg_free hF).2 ⟨g1 k (List.mem_cons_self ..), List.isPrefixOf_iff_prefix.2 ⟨_, ht⟩, rfl⟩, (ih _ _).2 ⟨fun z hz => g1 z (List.mem_cons_of_mem _ hz), ?_, by rw [size_len, List.length_append, Nat.add_assoc]⟩⟩
      rw [List.isPrefixOf_iff_prefix, size_len, ← List.drop_drop, ← ht, List.drop_left]
      exact ⟨t, rfl⟩
theorem gd_free {a : Int} {rs : List Rule} (hF : FreeR rs) (ha : bitB a 0 = true) {s : List Nat} {ks : List Int} : GdE (edgP rs s) (finP a s) (0, 0) ks ↔ (InN rs ks ∧ prtL rs ks = s) := by
  unfold GdE
  constructor
  · rintro ⟨u, h1, h2⟩
    obtain ⟨g1, g2, rfl⟩ := (go_free hF ks 0 u).1 h1
    unfold finP at h2
    rw [Bool.and_eq_true, decide_eq_true_eq] at h2
    obtain ⟨t, ht⟩ := List.isPrefixOf_iff_prefix.1 g2
    rw [List.drop_zero] at ht
    have hl := congrArg List.length ht
    rw [List.length_append] at hl
    have h3 := h2.1
    dsimp only at h3
    obtain rfl : t = [] := List.eq_nil_of_length_eq_zero (by omega)
    rw [List.append_nil] at ht
    exact ⟨g1, ht⟩
  · rintro ⟨g1, g2⟩
    refine ⟨_, (go_free hF ks 0 _).2 ⟨g1, by rw [g2, List.drop_zero]; exact List.isPrefixOf_iff_prefix.2 (List.prefix_refl _), rfl⟩, ?_⟩
    unfold finP
    rw [g2, Bool.and_eq_true, decide_eq_true_eq]
    exact ⟨by simp, ha⟩
/-- What rules print costs no more than they write. -/
theorem cost_most {m a : Int} {rs : List Rule} (hG : GoodL m a rs) (hf : ∀ x ∈ rs, x.fits) (hF : FreeR rs) (ha : bitB a 0 = true) {ks : List Int} (hk : InN rs ks) {c : Int} (h : CostR a rs (prtL rs ks) c) : 0 ≤ c ∧ c ≤ (cstE (cstR rs) ks : Nat) := by
  have hg : GdE (edgP rs (prtL rs ks)) (finP a (prtL rs ks)) (0, 0) ks := (gd_free hF ha).2 ⟨hk, rfl⟩
  obtain ⟨hok, _⟩ := (gdP_iff hG hf).1 hg
  have ht := (ok_blanks hG hok).2.1
  obtain ⟨cs, k2, pl, er, hw, hc⟩ := h
  rcases hw with ⟨t, _⟩ | ⟨_, ⟨hb, rfl, _, he⟩ | ⟨hn, _⟩⟩
  · rw [ht] at t; cases t
  · rcases hc with ⟨_, rfl⟩ | ⟨h1, _⟩
    · have := (hb.2 ks hg).1
      rw [cellsK_len]
      omega
    · exact absurd he h1
  · exact absurd hg (hn ks)
/-- A text that has a cost has rules that write as much. -/
theorem cost_real {a : Int} {rs : List Rule} (hF : FreeR rs) (ha : bitB a 0 = true) {s : List Nat} {c : Int} (h : CostR a rs s c) (h0 : 0 ≤ c) : ∃ ks, InN rs ks ∧ prtL rs ks = s ∧ c = (cstE (cstR rs) ks : Nat) := by
  obtain ⟨cs, ks, pl, er, hw, hc⟩ := h
  rcases hc with ⟨he, rfl⟩ | ⟨_, rfl⟩
  · rcases hw with ⟨_, _, _, _, e⟩ | ⟨_, ⟨hb, rfl, _, _⟩ | ⟨_, _, _, _, e⟩⟩
    · omega
    · obtain ⟨g1, g2⟩ := (gd_free hF ha).1 hb.1
      exact ⟨ks, g1, g2, by rw [cellsK_len]⟩
    · omega
  · omega
/-- Two texts one after the other cost at most what both do. -/
theorem cost_parts {m a : Int} {rs : List Rule} (hG : GoodL m a rs) (hf : ∀ x ∈ rs, x.fits) (hF : FreeR rs) (ha : bitB a 0 = true) {s t : List Nat} {c d e : Int} (h1 : CostR a rs s c) (h2 : CostR a rs t d) (h3 : CostR a rs (s ++ t) e) (hc : 0 ≤ c) (hd : 0 ≤ d) : 0 ≤ e ∧ e ≤ c + d := by
  obtain ⟨k1, n1, rfl, rfl⟩ := cost_real hF ha h1 hc
  obtain ⟨k2, n2, rfl, rfl⟩ := cost_real hF ha h2 hd
  have e1 : prtL rs k1 ++ prtL rs k2 = prtL rs (k1 ++ k2) := by unfold prtL; rw [List.flatMap_append]
  rw [e1] at h3
  obtain ⟨g1, g2⟩ := cost_most hG hf hF ha (fun k hk => (List.mem_append.1 hk).elim (n1 k) (n2 k)) h3
  rw [cstE_app] at g2
  exact ⟨g1, by omega⟩
/-- A rule's text costs at most its cells. -/
theorem cost_rule {m a : Int} {rs : List Rule} (hG : GoodL m a rs) (hf : ∀ x ∈ rs, x.fits) (hF : FreeR rs) (ha : bitB a 0 = true) {s : List Nat} {c e : Int} {j : Nat} (hj : j < rs.length) (h1 : CostR a rs s c) (h3 : CostR a rs (s ++ bytes rs[j].p) e) (hc : 0 ≤ c) : 0 ≤ e ∧ e ≤ c + (rs[j].c.length : Int) := by
  obtain ⟨k1, n1, rfl, rfl⟩ := cost_real hF ha h1 hc
  have e0 : prtL rs [(j : Int)] = bytes rs[j].p := by rw [prt_cons, rule_at hj]; unfold prtL; simp
  have e1 : prtL rs k1 ++ bytes rs[j].p = prtL rs (k1 ++ [(j : Int)]) := by rw [← e0]; unfold prtL; rw [List.flatMap_append]
  rw [e1] at h3
  obtain ⟨g1, g2⟩ := cost_most hG hf hF ha (fun k hk => (List.mem_append.1 hk).elim (n1 k) (fun h => by
    obtain rfl : k = (j : Int) := by simpa using h
    exact ⟨by omega, by omega⟩)) h3
  rw [cstE_app] at g2
  have e2 : cstE (cstR rs) [(j : Int)] = rs[j].c.length := by simp only [cstE]; unfold cstR; rw [rule_at hj]; omega
  rw [e2] at g2
  exact ⟨g1, by omega⟩
end Go.Proofs.Ytghjpblfneldcaa

/-! Opening an argument: an array of integers by value. -/
namespace Go.Proofs.Ytghjpblfneldcaa
open Go.ChangeShapes Go.WideShapes Go.ChangeAt Go.RowKit
def numOfA : Value → Int | .int _ z => z | _ => 0
section
variable {H : Type} {enc : TypeId × Value → H} {P : Program} {w : World} {base : Nat} {spare : Nat → Bool} {held : Bool}
theorem okWide_array {r : Go.Reach} {b0 n : Nat} {t e : TypeId} {v : Value} (ht : P.underlying t = some (.array n e)) (h : Value.okWide P w r b0 t v) : ∃ cs, v = .agg cs ∧ cs.size = P.cellsOf t := by
  simp only [Value.okWide, ht] at h
  obtain ⟨cs, h1, h2, _⟩ := h
  exact ⟨cs, h1, h2⟩
/-- An array of integers by value. -/
theorem open_arr {r : Go.Reach} {b0 n : Nat} {t e : TypeId} {k : IntKind} {v : Value} {d : DataW H} {p : List MemPlace} (ht : P.underlying t = some (.array n e)) (he : P.underlying e = some (.int k)) (hce : P.cellsOf e = 1) (hct : P.cellsOf t = n)
    (hv : Value.okWide P w r b0 t v) (h : DataW.Trod enc P w base spare held t v d p) :
    ∃ zs : List Int, zs.length = n ∧ v = .agg (zs.map (Value.int k)).toArray ∧ ∀ z ∈ zs, (Lit.int k z).wf = true := by
  obtain ⟨cs, rfl, hsz⟩ := okWide_array ht hv
  obtain ⟨fuel, hf⟩ := h
  obtain ⟨xs, m, _, _, _, hxl, hx⟩ := DataW.trod_array ht hf
  have key : ∀ i (hi : i < cs.size), ∃ z, cs[i] = .int k z ∧ (Lit.int k z).wf = true := by
    intro i hi
    have hin : i < n := by omega
    have h1 := hx i hin
    rw [hce, Nat.mul_one] at h1
    have e1 : (((Value.agg cs).cells.toList).drop i).take 1 = [cs[i]] := by
      simp only [Value.cells]
      rw [List.drop_eq_getElem_cons (by simpa using hi)]
      simp
    rw [e1, List.getElem?_eq_getElem (by omega)] at h1
    obtain ⟨z, hz, _, hw⟩ := DataW.trod_int he h1
    exact ⟨z, by simpa using hz, hw⟩
  refine ⟨cs.toList.map numOfA, by simp; omega, ?_, ?_⟩
  · congr 1
    apply Array.ext
    · simp
    · intro i h1 h2
      obtain ⟨z, hz, _⟩ := key i h1
      simp [hz, numOfA]
  · intro z hz
    rw [List.mem_map] at hz
    obtain ⟨v, hv, rfl⟩ := hz
    obtain ⟨i, hi, rfl⟩ := List.getElem_of_mem hv
    obtain ⟨z, hz, hw⟩ := key i (by simpa using hi)
    rw [Array.getElem_toList, hz]; exact hw
set_option maxRecDepth 10000 in
/-- Three bytes. -/
theorem open_three {r : Go.Reach} {b0 : Nat} {v : Value} {d : DataW H} {p : List MemPlace} {W : World} (hv : Value.okWide Try.prog W r b0 85 v) (h : DataW.Trod enc Try.prog W base spare held 85 v d p) :
    ∃ x0 x1 x2 : Int, v = .agg #[.int .u8 x0, .int .u8 x1, .int .u8 x2] ∧ (0 ≤ x0 ∧ x0 < 256) ∧ (0 ≤ x1 ∧ x1 < 256) ∧ (0 ≤ x2 ∧ x2 < 256) := by
  obtain ⟨zs, hl, rfl, hw⟩ := open_arr Try.underlying85 Try.underlying5 (by kernel_rfl) (by kernel_rfl) hv h
  match zs, hl, hw with
  | [x0, x1, x2], _, hw =>
    have b0 := bounds_u8 (hw x0 (by simp))
    have b1 := bounds_u8 (hw x1 (by simp))
    have b2 := bounds_u8 (hw x2 (by simp))
    exact ⟨x0, x1, x2, rfl, ⟨b0.1, by omega⟩, ⟨b1.1, by omega⟩, ⟨b2.1, by omega⟩⟩
end
end Go.Proofs.Ytghjpblfneldcaa

/-! Opening an argument: two raw rules by value. -/
namespace Go.Proofs.Ytghjpblfneldcaa
open Go.ChangeShapes Go.WideShapes Go.ChangeAt Go.RowKit
section
variable {H : Type} {enc : TypeId × Value → H} {W : World} {base : Nat} {spare : Nat → Bool} {held : Bool}
set_option maxRecDepth 10000 in
theorem six_of {fuel : Nat} {c0 c1 c2 c3 c4 c5 : Value} {y : DataW H × List MemPlace} (hf : DataW.trod enc Try.prog W base spare held fuel 75 [c0, c1, c2, c3, c4, c5] = some y) :
    ∃ (PA : Option Addr) (np kp : Nat) (CA : Option Addr) (nc kc : Nat) (ps cs : List Int) (l r u0 u1 : Int), [c0, c1, c2, c3, c4, c5] = [.slice PA np kp, .slice CA nc kc, .int .u8 l, .int .u8 r, .int .u8 u0, .int .u8 u1] ∧ RawV W PA np CA nc ps cs l r u0 u1 := by
  obtain ⟨xs, n, _, _, _, hxl, hf⟩ := DataW.trod_struct Try.underlying75 hf
  match xs, hxl with
  | [y0, y1, y2, y3, y4], _ =>
    obtain ⟨PA, kp, ps, e0, hP, hpz⟩ := trod_bytes (v := c0) (hf 0 _ rfl)
    obtain ⟨CA, kc, qs, e1, hC, hcz⟩ := trod_bytes (v := c1) (hf 1 _ rfl)
    obtain ⟨l, e2, _, wl⟩ := DataW.trod_int (cs := [c2]) Try.underlying5 (hf 2 _ rfl)
    obtain ⟨r, e3, _, wr⟩ := DataW.trod_int (cs := [c3]) Try.underlying5 (hf 3 _ rfl)
    have h4 := hf 4 _ rfl
    obtain ⟨zs, m, _, _, _, hzl, hz⟩ := DataW.trod_array (cs := [c4, c5]) Try.underlying73 h4
    match zs, hzl with
    | [v4, v5], _ =>
      obtain ⟨u0, e4, _, w4⟩ := DataW.trod_int (cs := [c4]) Try.underlying5 (hz 0 (by decide))
      obtain ⟨u1, e5, _, w5⟩ := DataW.trod_int (cs := [c5]) Try.underlying5 (hz 1 (by decide))
      subst e0 e1
      obtain rfl : c2 = .int .u8 l := by simpa using e2
      obtain rfl : c3 = .int .u8 r := by simpa using e3
      obtain rfl : c4 = .int .u8 u0 := by simpa using e4
      obtain rfl : c5 = .int .u8 u1 := by simpa using e5
      have b2 := bounds_u8 wl
      have b3 := bounds_u8 wr
      have b4 := bounds_u8 w4
      have b5 := bounds_u8 w5
      exact ⟨PA, ps.length, kp, CA, qs.length, kc, ps, qs, l, r, u0, u1, rfl, ⟨rfl, rfl⟩, ⟨hP, hC⟩, ⟨⟨b2.1, by omega⟩, ⟨b3.1, by omega⟩, ⟨b4.1, by omega⟩, ⟨b5.1, by omega⟩⟩, hpz, hcz⟩
/-- Two raw rules in a row of twelve cells. -/
def RawTwo (w : World) (g : Nat) : Prop := ∀ j : Nat, j < 2 → ∃ (PA : Option Addr) (np kp : Nat) (CA : Option Addr) (nc kc : Nat) (ps cs : List Int) (l r u0 u1 : Int),
  (w.cell? ⟨g, j * 6, none⟩ = some (.slice PA np kp) ∧ w.cell? ⟨g, j * 6 + 1, none⟩ = some (.slice CA nc kc) ∧ w.cell? ⟨g, j * 6 + 2, none⟩ = some (.int .u8 l) ∧ w.cell? ⟨g, j * 6 + 3, none⟩ = some (.int .u8 r) ∧ w.cell? ⟨g, j * 6 + 4, none⟩ = some (.int .u8 u0) ∧ w.cell? ⟨g, j * 6 + 5, none⟩ = some (.int .u8 u1)) ∧ RawV w PA np CA nc ps cs l r u0 u1
theorem cells2 : (Try.prog).cellsOf 75 = 6 := by kernel_rfl
set_option maxRecDepth 10000 in
theorem open_rawtwo {r : Go.Reach} {b0 : Nat} {v : Value} {d : DataW H} {p : List MemPlace} (hv : Value.okWide Try.prog W r b0 82 v) (h : DataW.Trod enc Try.prog W base spare held 82 v d p) :
    ∃ cells : Array Value, v = .agg cells ∧ RawTwo (W.alloc (.cells cells 82)) W.heap.size := by
  obtain ⟨cs, rfl, hsz⟩ := okWide_array Try.underlying82 hv
  refine ⟨cs, rfl, ?_⟩
  obtain ⟨l⟩ := cs
  match l, hsz.trans (by kernel_rfl : _ = 12) with
  | [c0, c1, c2, c3, c4, c5, c6, c7, c8, c9, c10, c11], _ =>
    obtain ⟨fuel, hf⟩ := h
    obtain ⟨xs, m, _, _, _, hxl, hx⟩ := DataW.trod_array Try.underlying82 hf
    match xs, hxl with
    | [y0, y1], _ =>
      have h0 := hx 0 (by decide)
      have h1 := hx 1 (by decide)
      rw [cells2] at h0 h1
      obtain ⟨PA, np, kp, CA, nc, kc, ps, qs, l, r, u0, u1, e, hv0⟩ := six_of (c0 := c0) (c1 := c1) (c2 := c2) (c3 := c3) (c4 := c4) (c5 := c5) h0
      obtain ⟨PA', np', kp', CA', nc', kc', ps', qs', l', r', u0', u1', e', hv1⟩ := six_of (c0 := c6) (c1 := c7) (c2 := c8) (c3 := c9) (c4 := c10) (c5 := c11) h1
      injection e with e0 e; injection e with e1 e; injection e with e2 e; injection e with e3 e; injection e with e4 e; injection e with e5 e
      injection e' with f0 e'; injection e' with f1 e'; injection e' with f2 e'; injection e' with f3 e'; injection e' with f4 e'; injection e' with f5 e'
      subst e0 e1 e2 e3 e4 e5 f0 f1 f2 f3 f4 f5
      have hB := Blk.new W #[.slice PA np kp, .slice CA nc kc, .int .u8 l, .int .u8 r, .int .u8 u0, .int .u8 u1, .slice PA' np' kp', .slice CA' nc' kc', .int .u8 l', .int .u8 r', .int .u8 u0', .int .u8 u1'] 82
      intro j hj
      rcases (show j = 0 ∨ j = 1 by omega) with rfl | rfl
      · exact ⟨PA, np, kp, CA, nc, kc, ps, qs, l, r, u0, u1, ⟨hB.cell 0, hB.cell 1, hB.cell 2, hB.cell 3, hB.cell 4, hB.cell 5⟩, hv0.up (below_box _ _ _)⟩
      · exact ⟨PA', np', kp', CA', nc', kc', ps', qs', l', r', u0', u1', ⟨hB.cell 6, hB.cell 7, hB.cell 8, hB.cell 9, hB.cell 10, hB.cell 11⟩, hv1.up (below_box _ _ _)⟩
end
end Go.Proofs.Ytghjpblfneldcaa

/-! law06.TranslateParts. -/
namespace Go.Proofs.Ytghjpblfneldcaa
open Go.RowKit Go.Maps
theorem letters_free : FreeR lettersR := by
  intro x hx
  simp only [lettersR, List.mem_cons, List.not_mem_nil, or_false] at hx
  rcases hx with rfl | rfl | rfl | rfl <;> exact ⟨rfl, rfl, rfl, rfl⟩
theorem letters_good : GoodL 1 1 lettersR := valid_iff.1 (by decide +kernel)
def SpelP (rs : List Rule) (S : ByteArray) (_ : World) : Prop := S.size ≤ 12 ∧ TextsR rs 12 S
theorem SpelP.keepP {rs : List Rule} {S : ByteArray} {w w' : World} (h : SpelP rs S w) : SpelP rs S w' := h
def FreshW (B : Nat) (t : TypeId) (row : Array Value) (g : Nat) (w : World) : Prop := B ≤ g ∧ Blk w g t row
theorem FreshW.keepZ {B : Nat} {t : TypeId} {row : Array Value} {g : Nat} {w w' : World} (h : FreshW B t row g w) (hb : Below w.heap.size w w') : FreshW B t row g w' := ⟨h.1, h.2.keep hb h.2.lt⟩
theorem RawTwo.up {w w' : World} {g : Nat} (h : RawTwo w g) (hb : Below w.heap.size w w') : RawTwo w' g := fun j hj => by
  obtain ⟨PA, np, kp, CA, nc, kc, ps, cs, l, r, u0, u1, ⟨h0, h1, h2, h3, h4, h5⟩, hv⟩ := h j hj
  have key : ∀ i v, w.cell? ⟨g, i, none⟩ = some v → w'.cell? ⟨g, i, none⟩ = some v := fun i v h => (hb.cell (p := ⟨g, i, none⟩) (World.block_lt_of_cell? w ⟨g, i, none⟩ h)).trans h
  exact ⟨PA, np, kp, CA, nc, kc, ps, cs, l, r, u0, u1, ⟨key _ _ h0, key _ _ h1, key _ _ h2, key _ _ h3, key _ _ h4, key _ _ h5⟩, hv.up hb⟩
set_option maxRecDepth 10000 in
set_option maxHeartbeats 4000000 in
theorem walk_parts (cells : Array Value) (XA : Option Addr) (xk : Nat) (xs : List Int) (YA : Option Addr) (yk : Nat) (ys : List Int) (w : World) (hc : RawTwo (w.alloc (.cells cells 82)) w.heap.size) (hX : Seq w w.heap.size XA xs) (hxs : ∀ z ∈ xs, 0 ≤ z ∧ z < 256) (hY : Seq w w.heap.size YA ys) (hys : ∀ z ∈ ys, 0 ≤ z ∧ z < 256) :
    Calls Try.prog 12 #[.agg cells, .slice XA xs.length xk, .slice YA ys.length yk] w fun e w' => e = .returned (.bool true) ∧ Below w.heap.size w w' := by
  obtain ⟨g, hg⟩ : ∃ g, w.heap.size = g := ⟨_, rfl⟩
  have V0A : Hid (RawTwo (w.alloc (.cells cells 82)) g) := by unfold Hid; rw [← hg]; exact hc
  have V0B : Hid (Below w.heap.size w (w.alloc (.cells cells 82))) := (Below.refl _ _).alloc (Nat.le_refl _) _
  have HX := Lib.hid hX
  have HXS := Lib.hid hxs
  have HY := Lib.hid hY
  have HYS := Lib.hid hys
  clear hc hX hxs hY hys
  go_enter Try.func12, Try.ntmps12
  go_wp2_with fail
  generalize w.alloc (.cells cells 82) = V0 at *
  refine (sanity6_any _).mono ?_
  rintro e w1 ⟨rfl, hb1⟩
  have A1 := Lib.hid (V0A.out.up hb1)
  have B1 : Hid (Below w.heap.size w w1) := below_next V0B.out hb1
  clear hb1 V0A V0B
  go_wp2_with fail
  refine (base0_any _).mono ?_
  rintro e w2 ⟨v, rfl, hM, hb2⟩
  obtain ⟨A0, k0, rfl, _, _⟩ := (Made.b hM).rules
  have hbx := below_box w2 #[.int .i64 1, .int .u8 1, .slice A0 lettersR.length k0] 30
  obtain ⟨q, hq⟩ : ∃ q, w2.heap.size = q := ⟨_, rfl⟩
  obtain ⟨lo, hlo⟩ : ∃ lo, w1.heap.size = lo := ⟨_, rfl⟩
  have HM := Lib.hid ((Made.b hM).keep hbx)
  rw [hlo] at HM
  have HL : Hid (lo ≤ q) := by have := hb2.size; unfold Hid; omega
  have T3 : Hid (Blk (w2.alloc (.cells #[.int .i64 1, .int .u8 1, .slice A0 lettersR.length k0] 30)) q 30 #[.int .i64 1, .int .u8 1, .slice A0 lettersR.length k0]) := by
    unfold Hid; rw [← hq]; exact Blk.new w2 _ _
  have HLO := Lib.hid hlo
  have HB13 : Hid (Below lo w1 (w2.alloc (.cells #[.int .i64 1, .int .u8 1, .slice A0 lettersR.length k0] 30))) := by unfold Hid; rw [← hlo]; exact below_next hb2 hbx
  clear hM hb2 hbx hlo
  go_upto_region 3 with fail
  generalize w2.alloc (.cells #[.int .i64 1, .int .u8 1, .slice A0 lettersR.length k0] 30) = w3 at *
  clear hq
  have hll : Hid (lettersR.length = 4) := rfl
  go_wp2_with fail
  go_loopw [9] (fun x wr => ∃ (j : Nat) (A' : Option Addr) (k' : Nat) (r2 : List Rule), x = .int .i64 j ∧ j ≤ 2 ∧ Below lo w1 wr ∧ Blk wr q 30 #[.int .i64 1, .int .u8 1, .slice A' r2.length k'] ∧ MadeB wr lo lo (.slice A' r2.length k') r2 ∧ GoodL 1 1 r2 ∧ FreeR r2 ∧ r2.length ≤ 4 + j) (fun x _ => 2 - (intOf x).toNat)
  case atStart => exact ⟨0, A0, k0, lettersR, rfl, by omega, HB13.out, T3.out, HM.out, letters_good, letters_free, by have := hll.out; omega⟩
  case round =>
    obtain ⟨j, A', k', r2, rfl, hj2, hB1, hQ1, hM1, hG1, hF1, hl1⟩ := hrel
    clear HM HB13 T3
    have HB1 := Lib.hid hB1
    have HQ1 := Lib.hid hQ1
    have HM1 := Lib.hid hM1
    have HG1 := Lib.hid hG1
    have HF1 := Lib.hid hF1
    have HRT : Hid (RawTwo wr g) := A1.out.up (by rw [HLO.out]; exact HB1.out)
    clear hB1 hQ1 hM1 hG1 hF1
    by_cases hlt : j < 2
    · have hj0 : (0 : Int) ≤ (j : Int) := by omega
      have hjl : (j : Int) < 2 := by omega
      obtain ⟨PA, np, kp, CA, nc, kc, ps, cs, cl, cr, u0, u1, ⟨e0, e1, e2, e3, e4, e5⟩, hv⟩ := HRT.out j hlt
      have HV := Lib.hid hv
      clear hv HRT
      go_wp2_with fail
      obtain ⟨⟨v1, v2⟩, ⟨v3, v4⟩, ⟨v5, v6, v7, v8⟩, v9, v10⟩ := HV.out
      refine (rule_any wr PA CA np nc kp kc ps cs cl cr u0 u1 1 v1 v2 v3 v4 v5 v6 v7 v8 (by omega) v9 v10).mono ?_
      rintro e wa ⟨v, x, rfl, ⟨Ax, kx, rfl, hsx⟩, hfx, _, _, hba⟩
      have hlow : lo ≤ wr.heap.size := by have := HB1.out.size; have := HLO.out; omega
      have HSA := Lib.hid (SeqC.less hsx hlow)
      have HQA := Lib.hid (HQ1.out.keep hba HQ1.out.lt)
      have HMA := Lib.hid (HM1.out.keep hba)
      have HBA : Hid (Below lo w1 wa) := HB1.out.trans (hba.mono hlow)
      have HFX := Lib.hid hfx
      have HX2 : Hid (Blk (wa.alloc (.cells #[.string x.p, .slice Ax x.c.length kx, .int .u8 x.l, .int .u8 x.r, .int .i64 x.f, .int .i64 x.t] 77)) wa.heap.size 77 #[.string x.p, .slice Ax x.c.length kx, .int .u8 x.l, .int .u8 x.r, .int .i64 x.f, .int .i64 x.t]) := Blk.new _ _ _
      have HBW : Hid (Below wa.heap.size wa (wa.alloc (.cells #[.string x.p, .slice Ax x.c.length kx, .int .u8 x.l, .int .u8 x.r, .int .i64 x.f, .int .i64 x.t] 77))) := below_box _ _ _
      obtain ⟨px, hpx⟩ : ∃ px, wa.heap.size = px := ⟨_, rfl⟩
      rw [hpx] at HX2 HBW
      have hpl : lo ≤ px := by have := hba.size; omega
      have HPX := Lib.hid hpx
      clear v1 v2 v3 v4 v5 v6 v7 v8 v9 v10 hsx hfx hba HQ1 HM1 HB1 HV e0 e1 e2 e3 e4 e5
      go_upto_region 7 with fail
      generalize wa.alloc (.cells #[.string x.p, .slice Ax x.c.length kx, .int .u8 x.l, .int .u8 x.r, .int .i64 x.f, .int .i64 x.t] 77) = wb at *
      clear hpx
      have f2 := HX2.out.free 2
      have f3 := HX2.out.free 3
      have c2 := HX2.out.cell 2
      have c3 := HX2.out.cell 3
      simp only [List.getElem?_toArray, List.getElem?_cons_zero, List.getElem?_cons_succ] at c2 c3
      go_upto_region 8 with fail
      clear c2 c3
      have HX3 : Hid (Blk ((wb.setCell ⟨px, 2, none⟩ (.int .u8 63)).setCell ⟨px, 3, none⟩ (.int .u8 63)) px 77 #[.string x.p, .slice Ax x.c.length kx, .int .u8 63, .int .u8 63, .int .i64 x.f, .int .i64 x.t]) := (HX2.out.set 2 _).set 3 _
      have hbw : Below wa.heap.size wa ((wb.setCell ⟨px, 2, none⟩ (.int .u8 63)).setCell ⟨px, 3, none⟩ (.int .u8 63)) := by
        rw [HPX.out]; exact (HBW.out.setCell (Nat.le_refl _) _).setCell (Nat.le_refl _) _
      have HS3 := Lib.hid (HSA.out.below hbw)
      have HQ3 := Lib.hid (HQA.out.keep hbw HQA.out.lt)
      have HM3 := Lib.hid (HMA.out.keep hbw)
      have HB3 : Hid (Below lo w1 ((wb.setCell ⟨px, 2, none⟩ (.int .u8 63)).setCell ⟨px, 3, none⟩ (.int .u8 63))) := HBA.out.trans (hbw.mono (by rw [HPX.out]; exact hpl))
      clear hbw HSA HQA HMA HBA HBW HX2 f2 f3
      generalize (wb.setCell ⟨px, 2, none⟩ (.int .u8 63)).setCell ⟨px, 3, none⟩ (.int .u8 63) = wc at *
      obtain ⟨x', hx'⟩ : ∃ x' : Rule, x' = ⟨x.p, x.c, 63, 63, x.f, x.t⟩ := ⟨_, rfl⟩
      have HF3 : Hid (x'.fits) := by
        obtain ⟨g1, g2, g3, _, _, g6, g7⟩ := HFX.out
        rw [hx']
        exact ⟨g1, g2, g3, ⟨by show (0 : Int) ≤ 63; decide, by show (63 : Int) < 256; decide⟩, ⟨by show (0 : Int) ≤ 63; decide, by show (63 : Int) < 256; decide⟩, g6, g7⟩
      have hp1 : x.p = x'.p := by rw [hx']
      have hp2 : x.c = x'.c := by rw [hx']
      have hp3 : x.f = x'.f := by rw [hx']
      have hp4 : x.t = x'.t := by rw [hx']
      have HL3 : Hid (x'.l = 63) := by unfold Hid; rw [hx']
      have HR3 : Hid (x'.r = 63) := by unfold Hid; rw [hx']
      have HW3 : Hid (lo ≤ wc.heap.size) := by have := HB3.out.size; have := HLO.out; unfold Hid; omega
      rw [hp1, hp2, hp3, hp4] at HX3
      rw [hp2] at HS3
      have HN3 : Hid (NewR lo [x'] (.slice (some ⟨wc.heap.size, 0, none⟩) 1 1) (wc.alloc (.cells #[.string x'.p, .slice Ax x'.c.length kx, .int .u8 63, .int .u8 63, .int .i64 x'.f, .int .i64 x'.t] 77))) := by
        have h1 := NewR.lit (RulesW.nil.snoc (k := kx) HS3.out HF3.out)
        unfold ruleVals at h1
        rw [HL3.out, HR3.out] at h1
        exact h1
      have hbx := below_box wc #[.string x'.p, .slice Ax x'.c.length kx, .int .u8 63, .int .u8 63, .int .i64 x'.f, .int .i64 x'.t] 77
      have HM4 := Lib.hid (HM3.out.keep hbx)
      have HQ4 := Lib.hid (HQ3.out.keep hbx HQ3.out.lt)
      have HB4 : Hid (Below lo w1 (wc.alloc (.cells #[.string x'.p, .slice Ax x'.c.length kx, .int .u8 63, .int .u8 63, .int .i64 x'.f, .int .i64 x'.t] 77))) := HB3.out.trans (hbx.mono HW3.out)
      have HW4 : Hid (lo ≤ (wc.alloc (.cells #[.string x'.p, .slice Ax x'.c.length kx, .int .u8 63, .int .u8 63, .int .i64 x'.f, .int .i64 x'.t] 77)).heap.size) := by have := hbx.size; have := HW3.out; unfold Hid; omega
      have q2 := HQ3.out.cell 2
      have q2b := HQ4.out.cell 2
      have c0 := HX3.out.cell 0
      have c1 := HX3.out.cell 1
      have c2 := HX3.out.cell 2
      have c3 := HX3.out.cell 3
      have c4 := HX3.out.cell 4
      have c5 := HX3.out.cell 5
      simp only [List.getElem?_toArray, List.getElem?_cons_zero, List.getElem?_cons_succ] at q2 q2b c0 c1 c2 c3 c4 c5
      clear hbx hx' hp1 hp2 hp3 hp4 HFX HS3 HM3 HB3 HX3 HQ3
      go_wp2_with (at_builtin; refine wpList_append_made rfl _ _ rfl lo lo (.slice A' r2.length k') _ r2 [x'] rfl HM4.out rfl HN3.out (by show r2.length + 1 ≤ 1000; omega) (by show 0 < 1; omega) HW4.out ?_)
      intro v9 w9 hM9 hO9
      obtain ⟨A9, k9, rfl, hR9, hk9⟩ := hM9.rules
      have hl9 : (r2 ++ [x']).length = r2.length + 1 := by simp
      have HM9 := Lib.hid hM9
      have HQ9 := Lib.hid (hO9.blk HQ4.out (by decide))
      have HB9 : Hid (Below lo w1 w9) := HB4.out.trans (hO9.below HW4.out)
      have c9 := HQ9.out.cell 2
      have f9 := HQ9.out.free 2
      simp only [List.getElem?_toArray, List.getElem?_cons_zero, List.getElem?_cons_succ] at c9
      rw [hl9] at hk9 ⊢
      rw [hl9] at HM9
      clear hM9 hO9 hR9 HM4 HQ4 HB4 HN3 HW4 q2 q2b c0 c1 c2 c3 c4 c5
      go_upto_region 9 with fail
      have Q4 : Hid (Blk (w9.setCell ⟨q, 2, none⟩ (.slice A9 (r2.length + 1) k9)) q 30 #[.int .i64 1, .int .u8 1, .slice A9 (r2.length + 1) k9]) := HQ9.out.set 2 _
      have M4 : Hid (MadeB (w9.setCell ⟨q, 2, none⟩ (.slice A9 (r2.length + 1) k9)) lo lo (.slice A9 (r2.length + 1) k9) (r2 ++ [x'])) := HM9.out.set HQ9.out (by decide) _
      have B4 : Hid (Below lo w1 (w9.setCell ⟨q, 2, none⟩ (.slice A9 (r2.length + 1) k9))) := HB9.out.setCell HL.out _
      clear HQ9 HM9 HB9 c9 f9
      generalize w9.setCell ⟨q, 2, none⟩ (.slice A9 (r2.length + 1) k9) = w4 at *
      have c0 := Q4.out.cell 0
      have c1 := Q4.out.cell 1
      have c2 := Q4.out.cell 2
      simp only [List.getElem?_toArray, List.getElem?_cons_zero, List.getElem?_cons_succ] at c0 c1 c2
      have HR4 : Hid (Rules w4 w4.heap.size A9 (r2 ++ [x'])) := by
        obtain ⟨A8, k8, e8, h8, _⟩ := M4.out.rules
        injection e8 with e1 e2 e3
        rw [e1]; exact h8
      go_wp2_with fail
      refine (rValid_any A9 (r2.length + 1) k9 1 1 (r2 ++ [x']) _ hl9 HR4.out (by omega) (by decide)).mono ?_
      rintro e w5 ⟨rfl, hb5⟩
      have Q5 := Lib.hid (Q4.out.keep hb5 (Blk.lt Q4.out))
      have M5 := Lib.hid (M4.out.keep hb5)
      have B5 : Hid (Below lo w1 w5) := B4.out.trans (hb5.mono (by have := B4.out.size; have := HLO.out; omega))
      clear hb5 Q4 M4 B4 HR4 c0 c1 c2
      have c2 := Q5.out.cell 2
      have f2 := Q5.out.free 2
      simp only [List.getElem?_toArray, List.getElem?_cons_zero, List.getElem?_cons_succ] at c2
      obtain ⟨vb, hvb⟩ : ∃ vb, validB 1 1 (r2 ++ [x']) = vb := ⟨_, rfl⟩
      rw [hvb]
      have HVB := Lib.hid hvb
      clear hvb
      cases vb
      · have hp0 : (0 : Int) ≤ (r2.length : Int) + 1 - 1 := by omega
        have hp1 : (r2.length : Int) + 1 - 1 ≤ (k9 : Int) := by omega
        have hp2 : (r2.length : Int) + 1 - 1 = (r2.length : Int) := by omega
        have hp3 : (r2.length : Int) ≤ (k9 : Int) := by omega
        have HEND : Hid (MadeB (w5.setCell ⟨q, 2, none⟩ (.slice A9 r2.length k9)) lo lo (.slice A9 r2.length k9) r2) := M5.out.pop.set Q5.out (by decide) _
        have HEQ : Hid (Blk (w5.setCell ⟨q, 2, none⟩ (.slice A9 r2.length k9)) q 30 #[.int .i64 1, .int .u8 1, .slice A9 r2.length k9]) := Q5.out.set 2 _
        have HEB : Hid (Below lo w1 (w5.setCell ⟨q, 2, none⟩ (.slice A9 r2.length k9))) := B5.out.setCell HL.out _
        clear M5 Q5 B5
        go_wp2_with fail
        exact ⟨⟨j + 1, A9, k9, r2, by go_num, hlt, HEB.out, HEQ.out, HEND.out, HG1.out, HF1.out, by omega⟩, by simp [intOf]; omega⟩
      · have HG9 : Hid (GoodL 1 1 (r2 ++ [x'])) := valid_iff.1 HVB.out
        have HF9 : Hid (FreeR (r2 ++ [x'])) := fun y hy => by
          rcases List.mem_append.1 hy with h | h
          · exact HF1.out y h
          · obtain rfl : y = x' := by simpa using h
            have hmo := modes_ok HG9.out hy
            exact ⟨HL3.out, HR3.out, by omega, by omega⟩
        go_wp2_with fail
        exact ⟨⟨j + 1, A9, k9, r2 ++ [x'], by go_num, hlt, B5.out, by rw [hl9]; exact Q5.out, by rw [hl9]; exact M5.out, HG9.out, HF9.out, by rw [hl9]; omega⟩, by simp [intOf]; omega⟩
    · have hr1 : 1 ≤ r2.length := by
        have := HG1.out.1
        unfold numsB at this
        simp only [Bool.and_eq_true, decide_eq_true_eq] at this
        omega
      obtain ⟨A'', k'', eA, hR, hk⟩ := HM1.out.rules
      obtain ⟨rfl, rfl⟩ : A' = A'' ∧ k' = k'' := by injection eA with h1 h2 h3; exact ⟨h1, h3⟩
      have BW : Hid (Below w.heap.size w wr) := below_next B1.out (by rw [HLO.out]; exact HB1.out)
      have HR := Lib.hid hR
      have HS1 : Hid (∀ W, Below wr.heap.size wr W → Calls Try.prog 29 #[.agg #[.int .i64 1, .int .u8 1, .slice A' r2.length k'], .slice XA xs.length xk] W (SpelEnd r2 W)) := fun W hb => spelled_any 1 1 A' r2.length k' r2 W rfl (HR.out.up hb) (by omega) (by omega) XA xs.length xk xs rfl (HX.out.up (below_next BW.out hb)) HXS.out
      have HS2 : Hid (∀ W, Below wr.heap.size wr W → Calls Try.prog 29 #[.agg #[.int .i64 1, .int .u8 1, .slice A' r2.length k'], .slice YA ys.length yk] W (SpelEnd r2 W)) := fun W hb => spelled_any 1 1 A' r2.length k' r2 W rfl (HR.out.up hb) (by omega) (by omega) YA ys.length yk ys rfl (HY.out.up (below_next BW.out hb)) HYS.out
      obtain ⟨r, hr, hrl⟩ : ∃ r : Nat, ((xs.length : Int)).tmod (r2.length : Int) = (r : Int) ∧ r < r2.length := by
        rw [Int.tmod_eq_emod_of_nonneg (by omega)]
        have h1 := Int.emod_nonneg (xs.length : Int) (b := (r2.length : Int)) (by omega)
        have h2 := Int.emod_lt_of_pos (xs.length : Int) (b := (r2.length : Int)) (by omega)
        exact ⟨((xs.length : Int) % (r2.length : Int)).toNat, by omega, by omega⟩
      obtain ⟨b, o, CR, kr, rfl, hbl, ru0, ru1, ru2, ru3, ru4, ru5, hsq, hfit⟩ := rules_row HR.out hrl
      obtain ⟨x, hx⟩ : ∃ x, r2[r]'hrl = x := ⟨_, rfl⟩
      rw [hx] at ru0 ru1 ru2 ru3 ru4 ru5
      have HXR : Hid (∃ h : r < r2.length, r2[r]'h = x) := ⟨hrl, hx⟩
      obtain ⟨pp, hpp⟩ : ∃ pp, x.p = pp := ⟨_, rfl⟩
      obtain ⟨cn, hcn⟩ : ∃ cn, x.c.length = cn := ⟨_, rfl⟩
      have HPP := Lib.hid hpp
      have HCN := Lib.hid hcn
      have HPS : Hid (pp.size < 2 ^ 47) := by unfold Hid; rw [← hpp, ← hx]; exact hfit.1
      rw [hpp] at ru0
      rw [hcn] at ru1
      generalize x.l = rl at *
      generalize x.r = rr at *
      generalize x.f = rf at *
      generalize x.t = rt at *
      have t0 := HQ1.out.cell 0
      have t1 := HQ1.out.cell 1
      have t2 := HQ1.out.cell 2
      simp only [List.getElem?_toArray, List.getElem?_cons_zero, List.getElem?_cons_succ] at t0 t1 t2
      have HTL := Lib.hid HQ1.out.lt
      have HBL := Lib.hid hbl
      have hrz : (0 : Int) ≤ (r : Int) := by omega
      clear hx hpp hcn hfit hsq hR hbl
      have hjn : ¬ (j : Int) < 2 := by omega
      have hrn : ¬ r2 = [] := fun e => by rw [e] at hr1; simp at hr1
      go_upto_region 11 with fail
      refine wp_region_head 19 0 (by kernel_rfl) (fun y => (Value.agg cells) :: (Value.slice XA xs.length xk) :: (Value.slice YA ys.length yk) :: (Value.pointer (some ⟨g, 0, none⟩)) :: undef :: undef :: (Value.bool false) :: (Value.bool true) :: (Value.pointer (some ⟨q, 0, none⟩)) :: (Value.int IntKind.i64 ↑j) :: u10 :: y 17 :: y 18 :: y 16 :: undef :: undef :: undef :: undef :: (Value.bool true) :: (Value.agg #[Value.int IntKind.i64 1, Value.int IntKind.u8 1, Value.slice A0 lettersR.length k0]) :: (Value.int IntKind.i64 ↑j) :: (Value.bool false) :: u22 :: u23 :: u24 :: u25 :: u26 :: u27 :: u28 :: u29 :: u30 :: u31 :: u32 :: u33 :: u34 :: u35 :: u36 :: u37 :: u38 :: u39 :: u40 :: u41 :: u42 :: u43 :: u44 :: u45 :: u46 :: y 0 :: y 1 :: y 2 :: y 3 :: y 4 :: y 5 :: y 6 :: y 7 :: y 8 :: y 9 :: y 10 :: y 11 :: y 12 :: y 13 :: y 14 :: y 15 :: undef :: undef :: undef :: undef :: undef :: undef :: undef :: undef :: undef :: undef :: undef :: undef :: undef :: undef :: undef :: undef :: undef :: undef :: undef :: undef :: undef :: undef :: undef :: undef :: undef :: undef :: undef :: undef :: undef :: undef :: undef :: undef :: undef :: undef :: undef :: undef :: undef :: undef :: undef :: undef :: undef :: undef :: undef :: undef :: undef :: undef :: undef :: undef :: undef :: undef :: [])
        (fun _ w' => Below wr.heap.size wr w') (phiP [pv (.agg #[.int .i64 1, .int .u8 1, .slice (some ⟨b, o, none⟩) r2.length k']), pv (.slice XA xs.length xk), pq (fun (S : ByteArray) => .string S) (fun (S : ByteArray) w => SpelP r2 S w), pv (.agg #[.int .i64 1, .int .u8 1, .slice (some ⟨b, o, none⟩) r2.length k']), pv (.slice YA ys.length yk), pq (fun (S : ByteArray) => .string S) (fun (S : ByteArray) w => SpelP r2 S w), pv (.pointer (some ⟨q, 2, none⟩)), pv (.slice (some ⟨b, o, none⟩) r2.length k'), pv (.slice XA xs.length xk), pv (.int .i64 xs.length), pv (.pointer (some ⟨q, 2, none⟩)), pv (.slice (some ⟨b, o, none⟩) r2.length k'), pv (.int .i64 r2.length), pv (.int .i64 r), pv (.pointer (some ⟨b, o + r * 6, none⟩)), pv (.agg #[.string pp, .slice CR cn kr, .int .u8 rl, .int .u8 rr, .int .i64 rf, .int .i64 rt]), pq (fun (g0 : Nat) => .pointer (some ⟨g0, 0, none⟩)) (fun (g0 : Nat) w => FreshW wr.heap.size 77 #[.string ⟨#[]⟩, .slice none 0 0, .int .u8 0, .int .u8 0, .int .i64 0, .int .i64 0] g0 w), pq (fun (S : ByteArray) => .string S) (fun (S : ByteArray) w => SpelP r2 S w), pq (fun (S : ByteArray) => .string S) (fun (S : ByteArray) w => SpelP r2 S w)]) (fun i => match i with | 0 => undef | 1 => undef | 2 => undef | 3 => undef | 4 => undef | 5 => undef | 6 => undef | 7 => undef | 8 => undef | 9 => undef | 10 => undef | 11 => undef | 12 => undef | 13 => undef | 14 => undef | 15 => undef | 16 => undef | 17 => undef | 18 => undef | _ => undef)
        (by kernel_rfl) (by kernel_rfl) (by kernel_rfl) (by kernel_rfl) (fun i v wa wb h hb => phiP_keep (stay_cons (pv_st) (stay_cons (pv_st) (stay_cons (pq_st (fun S w w' h hb => h.keepP)) (stay_cons (pv_st) (stay_cons (pv_st) (stay_cons (pq_st (fun S w w' h hb => h.keepP)) (stay_cons (pv_st) (stay_cons (pv_st) (stay_cons (pv_st) (stay_cons (pv_st) (stay_cons (pv_st) (stay_cons (pv_st) (stay_cons (pv_st) (stay_cons (pv_st) (stay_cons (pv_st) (stay_cons (pv_st) (stay_cons (pq_st (fun g0 w w' h hb => h.keepZ hb)) (stay_cons (pq_st (fun S w w' h hb => h.keepP)) (stay_cons (pq_st (fun S w w' h hb => h.keepP)) stay_nil))))))))))))))))))) h hb) (Below.refl _ _).drew [0, 1, 2, 3, 4, 5, 6, 7, 8, 9, 10, 11, 12, 13, 14, 15, 16, 17, 18] (by kernel_rfl) ?_ ?_
      · refine allCons ?_ (allCons ?_ (allCons ?_ (allCons ?_ (allCons ?_ (allCons ?_ (allCons ?_ (allCons ?_ (allCons ?_ (allCons ?_ (allCons ?_ (allCons ?_ (allCons ?_ (allCons ?_ (allCons ?_ (allCons ?_ (allCons ?_ (allCons ?_ (allCons ?_ (allNil)))))))))))))))))))
        all_goals intro y w10 K hS hd hK
        · have qq0 := (hS.cell (p := ⟨q, 0, none⟩) HTL.out).trans t0
          have qq1 := (hS.cell (p := ⟨q, 1, none⟩) HTL.out).trans t1
          have qq2 := (hS.cell (p := ⟨q, 2, none⟩) HTL.out).trans t2
          refine wpOp_step rfl (fun K2 hK2 => ?_)
          go_simp
          exact hK2 _ _ (hK _ _ hS rfl (Below.refl _ _))
        · refine wpOp_step rfl (fun K2 hK2 => ?_)
          go_simp
          exact hK2 _ _ (hK _ _ hS rfl (Below.refl _ _))
        · have e0 : y 0 = _ := hd 0 rfl
          have e1 : y 1 = _ := hd 1 rfl
          obtain ⟨y, rfl⟩ := upd_at (y := y) (i := 0) e0
          obtain ⟨y, rfl⟩ := upd_at (y := y) (i := 1) e1
          dsimp [upd]
          refine wpOp_step rfl (fun K2 hK2 => ?_)
          go_simp
          refine (HS1.out w10 hS).mono ?_
          rintro e' w2 ⟨S, rfl, hs, htx, hb2⟩
          exact hK2 _ _ (hK _ _ (below_next hS hb2) ⟨S, rfl, ⟨hs, htx⟩⟩ hb2)
        · have qq0 := (hS.cell (p := ⟨q, 0, none⟩) HTL.out).trans t0
          have qq1 := (hS.cell (p := ⟨q, 1, none⟩) HTL.out).trans t1
          have qq2 := (hS.cell (p := ⟨q, 2, none⟩) HTL.out).trans t2
          refine wpOp_step rfl (fun K2 hK2 => ?_)
          go_simp
          exact hK2 _ _ (hK _ _ hS rfl (Below.refl _ _))
        · refine wpOp_step rfl (fun K2 hK2 => ?_)
          go_simp
          exact hK2 _ _ (hK _ _ hS rfl (Below.refl _ _))
        · have e3 : y 3 = _ := hd 3 rfl
          have e4 : y 4 = _ := hd 4 rfl
          obtain ⟨y, rfl⟩ := upd_at (y := y) (i := 3) e3
          obtain ⟨y, rfl⟩ := upd_at (y := y) (i := 4) e4
          dsimp [upd]
          refine wpOp_step rfl (fun K2 hK2 => ?_)
          go_simp
          refine (HS2.out w10 hS).mono ?_
          rintro e' w2 ⟨S, rfl, hs, htx, hb2⟩
          exact hK2 _ _ (hK _ _ (below_next hS hb2) ⟨S, rfl, ⟨hs, htx⟩⟩ hb2)
        · refine wpOp_step rfl (fun K2 hK2 => ?_)
          go_simp
          exact hK2 _ _ (hK _ _ hS rfl (Below.refl _ _))
        · have e6 : y 6 = _ := hd 6 rfl
          obtain ⟨y, rfl⟩ := upd_at (y := y) (i := 6) e6
          dsimp [upd]
          have qq2 := (hS.cell (p := ⟨q, 2, none⟩) HTL.out).trans t2
          refine wpOp_step rfl (fun K2 hK2 => ?_)
          go_simp
          exact hK2 _ _ (hK _ _ hS rfl (Below.refl _ _))
        · refine wpOp_step rfl (fun K2 hK2 => ?_)
          go_simp
          exact hK2 _ _ (hK _ _ hS rfl (Below.refl _ _))
        · have e8 : y 8 = _ := hd 8 rfl
          obtain ⟨y, rfl⟩ := upd_at (y := y) (i := 8) e8
          dsimp [upd]
          refine wpOp_step rfl (fun K2 hK2 => ?_)
          go_simp
          exact hK2 _ _ (hK _ _ hS rfl (Below.refl _ _))
        · refine wpOp_step rfl (fun K2 hK2 => ?_)
          go_simp
          exact hK2 _ _ (hK _ _ hS rfl (Below.refl _ _))
        · have e10 : y 10 = _ := hd 10 rfl
          obtain ⟨y, rfl⟩ := upd_at (y := y) (i := 10) e10
          dsimp [upd]
          have qq2 := (hS.cell (p := ⟨q, 2, none⟩) HTL.out).trans t2
          refine wpOp_step rfl (fun K2 hK2 => ?_)
          go_simp
          exact hK2 _ _ (hK _ _ hS rfl (Below.refl _ _))
        · have e11 : y 11 = _ := hd 11 rfl
          obtain ⟨y, rfl⟩ := upd_at (y := y) (i := 11) e11
          dsimp [upd]
          refine wpOp_step rfl (fun K2 hK2 => ?_)
          go_simp
          exact hK2 _ _ (hK _ _ hS rfl (Below.refl _ _))
        · have e9 : y 9 = _ := hd 9 rfl
          have e12 : y 12 = _ := hd 12 rfl
          obtain ⟨y, rfl⟩ := upd_at (y := y) (i := 9) e9
          obtain ⟨y, rfl⟩ := upd_at (y := y) (i := 12) e12
          dsimp [upd]
          refine wpOp_step rfl (fun K2 hK2 => ?_)
          go_simp
          exact hK2 _ _ (hK _ _ hS rfl (Below.refl _ _))
        · have e7 : y 7 = _ := hd 7 rfl
          have e13 : y 13 = _ := hd 13 rfl
          obtain ⟨y, rfl⟩ := upd_at (y := y) (i := 7) e7
          obtain ⟨y, rfl⟩ := upd_at (y := y) (i := 13) e13
          dsimp [upd]
          refine wpOp_step rfl (fun K2 hK2 => ?_)
          go_simp
          exact hK2 _ _ (hK _ _ hS rfl (Below.refl _ _))
        · have e14 : y 14 = _ := hd 14 rfl
          obtain ⟨y, rfl⟩ := upd_at (y := y) (i := 14) e14
          dsimp [upd]
          have qr0 := (hS.cell (p := ⟨b, o + r * 6, none⟩) HBL.out).trans ru0
          have qr1 := (hS.cell (p := ⟨b, o + r * 6 + 1, none⟩) HBL.out).trans ru1
          have qr2 := (hS.cell (p := ⟨b, o + r * 6 + 2, none⟩) HBL.out).trans ru2
          have qr3 := (hS.cell (p := ⟨b, o + r * 6 + 3, none⟩) HBL.out).trans ru3
          have qr4 := (hS.cell (p := ⟨b, o + r * 6 + 4, none⟩) HBL.out).trans ru4
          have qr5 := (hS.cell (p := ⟨b, o + r * 6 + 5, none⟩) HBL.out).trans ru5
          refine wpOp_step rfl (fun K2 hK2 => ?_)
          go_simp
          exact hK2 _ _ (hK _ _ hS rfl (Below.refl _ _))
        · refine wpOp_step rfl (fun K2 hK2 => ?_)
          go_simp
          exact hK2 _ _ (hK _ _ (below_next hS (below_box _ _ _)) ⟨_, rfl, ⟨hS.size, Blk.new _ _ _⟩⟩ (below_box _ _ _))
        · obtain ⟨S, e2, hs⟩ := hd 2 rfl
          obtain ⟨y, rfl⟩ := upd_at (y := y) (i := 2) e2
          dsimp [upd]
          refine wpOp_step rfl (fun K2 hK2 => ?_)
          go_simp
          exact hK2 _ _ (hK _ _ hS ⟨S, rfl, hs⟩ (Below.refl _ _))
        · obtain ⟨S, e5, hs⟩ := hd 5 rfl
          obtain ⟨y, rfl⟩ := upd_at (y := y) (i := 5) e5
          dsimp [upd]
          refine wpOp_step rfl (fun K2 hK2 => ?_)
          go_simp
          exact hK2 _ _ (hK _ _ hS ⟨S, rfl, hs⟩ (Below.refl _ _))
      · intro y w10 f hS hd
        obtain ⟨Sa, e17, hsa⟩ := hd 17 (by decide)
        obtain ⟨Sb, e18, hsb⟩ := hd 18 (by decide)
        obtain ⟨gz, e16, hgz⟩ := hd 16 (by decide)
        have e15 : y 15 = _ := hd 15 (by decide)
        clear hd
        obtain ⟨y, rfl⟩ := upd_at (y := y) (i := 15) e15
        obtain ⟨y, rfl⟩ := upd_at (y := y) (i := 16) e16
        obtain ⟨y, rfl⟩ := upd_at (y := y) (i := 17) e17
        obtain ⟨y, rfl⟩ := upd_at (y := y) (i := 18) e18
        dsimp [upd]
        have z0 := hgz.2.cell 0
        have z1 := hgz.2.cell 1
        have z2 := hgz.2.cell 2
        have z3 := hgz.2.cell 3
        have z4 := hgz.2.cell 4
        have z5 := hgz.2.cell 5
        simp only [List.getElem?_toArray, List.getElem?_cons_zero, List.getElem?_cons_succ] at z0 z1 z2 z3 z4 z5
        have x0 := hgz.2.free 0
        have x1 := hgz.2.free 1
        have x2 := hgz.2.free 2
        have x3 := hgz.2.free 3
        have x4 := hgz.2.free 4
        have x5 := hgz.2.free 5
        refine wpAny_one (i := 19) (by kernel_rfl) ?_
        refine wpOp_step rfl (fun K2 hK2 => ?_)
        go_simp
        refine hK2 _ _ ?_
        clear hK2 K2 e15 e16 e17 e18 z0 z1 z2 z3 z4 z5 x0 x1 x2 x3 x4 x5
        refine wpAny_done (by kernel_rfl) ?_ _
        have HX6 : Hid (Blk w10 gz 77 #[.string ⟨#[]⟩, .slice none 0 0, .int .u8 0, .int .u8 0, .int .i64 0, .int .i64 0]) := hgz.2
        have hb6 : Below wr.heap.size wr ((((((w10.setCell ⟨gz, 0, none⟩ (.string pp)).setCell ⟨gz, 1, none⟩ (.slice CR cn kr)).setCell ⟨gz, 2, none⟩ (.int .u8 rl)).setCell ⟨gz, 3, none⟩ (.int .u8 rr)).setCell ⟨gz, 4, none⟩ (.int .i64 rf)).setCell ⟨gz, 5, none⟩ (.int .i64 rt)) := (((((hS.setCell hgz.1 _).setCell hgz.1 _).setCell hgz.1 _).setCell hgz.1 _).setCell hgz.1 _).setCell hgz.1 _
        have HZ : Hid (Blk ((((((w10.setCell ⟨gz, 0, none⟩ (.string pp)).setCell ⟨gz, 1, none⟩ (.slice CR cn kr)).setCell ⟨gz, 2, none⟩ (.int .u8 rl)).setCell ⟨gz, 3, none⟩ (.int .u8 rr)).setCell ⟨gz, 4, none⟩ (.int .i64 rf)).setCell ⟨gz, 5, none⟩ (.int .i64 rt)) gz 77 #[.string pp, .slice CR cn kr, .int .u8 rl, .int .u8 rr, .int .i64 rf, .int .i64 rt]) := (((((HX6.out.set 0 _).set 1 _).set 2 _).set 3 _).set 4 _).set 5 _
        have HB6 := Lib.hid hb6
        clear hb6 hgz hS HX6 HS1 HS2 ru0 ru1 ru2 ru3 ru4 ru5 t0 t1 t2
        generalize ((((((w10.setCell ⟨gz, 0, none⟩ (.string pp)).setCell ⟨gz, 1, none⟩ (.slice CR cn kr)).setCell ⟨gz, 2, none⟩ (.int .u8 rl)).setCell ⟨gz, 3, none⟩ (.int .u8 rr)).setCell ⟨gz, 4, none⟩ (.int .i64 rf)).setCell ⟨gz, 5, none⟩ (.int .i64 rt)) = V at *
        have HR6 := Lib.hid (HR.out.up HB6.out)
        have HQ6 := Lib.hid (HQ1.out.keep HB6.out HQ1.out.lt)
        have BE : Hid (Below w.heap.size w V) := below_next BW.out HB6.out
        obtain ⟨hA12, hTA⟩ := hsa
        obtain ⟨hB12, hTB⟩ := hsb
        have hsz := sound_sizes HG1.out (List.getElem_mem hrl)
        obtain ⟨hrl', hxe⟩ := HXR.out
        rw [hxe, HPP.out] at hsz
        have hp4 : pp.size ≤ 4 := hsz.1
        clear hsz
        obtain ⟨c, hc⟩ := cost_ex HG1.out (bytes Sa)
        obtain ⟨d, hd'⟩ := cost_ex HG1.out (bytes Sb)
        obtain ⟨e1, he1⟩ := cost_ex HG1.out (bytes (Sa ++ Sb))
        obtain ⟨e2, he2⟩ := cost_ex HG1.out (bytes (Sa ++ pp))
        have hsz1 : (Sa ++ Sb).size < 2 ^ 36 := by rw [ByteArray.size_append]; omega
        have hsz2 : (Sa ++ pp).size < 2 ^ 36 := by rw [ByteArray.size_append]; omega
        have HTB : Hid (∀ W, Below V.heap.size V W → TbAt 1 1 (some ⟨b, o, none⟩) r2.length k' r2 W) := fun W hb => ⟨HR6.out.up hb, HG1.out, rfl, by omega, by omega, by decide, hk⟩
        have HC1 : Hid (∀ W, Below V.heap.size V W → Calls Try.prog 33 #[.agg #[.int .i64 1, .int .u8 1, .slice (some ⟨b, o, none⟩) r2.length k'], .string Sa] W fun e w' => e = .returned (.int .i64 c) ∧ Below W.heap.size W w') := fun W hb => cost6_any _ _ _ _ _ _ _ _ W (HTB.out W hb) (by omega) hc
        have HC2 : Hid (∀ W, Below V.heap.size V W → Calls Try.prog 33 #[.agg #[.int .i64 1, .int .u8 1, .slice (some ⟨b, o, none⟩) r2.length k'], .string Sb] W fun e w' => e = .returned (.int .i64 d) ∧ Below W.heap.size W w') := fun W hb => cost6_any _ _ _ _ _ _ _ _ W (HTB.out W hb) (by omega) hd'
        have HC3 : Hid (∀ W, Below V.heap.size V W → Calls Try.prog 33 #[.agg #[.int .i64 1, .int .u8 1, .slice (some ⟨b, o, none⟩) r2.length k'], .string (Sa ++ Sb)] W fun e w' => e = .returned (.int .i64 e1) ∧ Below W.heap.size W w') := fun W hb => cost6_any _ _ _ _ _ _ _ _ W (HTB.out W hb) hsz1 he1
        have HC4 : Hid (∀ W, Below V.heap.size V W → Calls Try.prog 33 #[.agg #[.int .i64 1, .int .u8 1, .slice (some ⟨b, o, none⟩) r2.length k'], .string (Sa ++ pp)] W fun e w' => e = .returned (.int .i64 e2) ∧ Below W.heap.size W w') := fun W hb => cost6_any _ _ _ _ _ _ _ _ W (HTB.out W hb) hsz2 he2
        rw [bytes_appM] at he1 he2
        have hfit : ∀ x ∈ r2, x.fits := HR6.out.fit
        obtain ⟨hc0, hc48⟩ : 0 ≤ c ∧ c ≤ 48 := by
          obtain ⟨k1, n1, n2, n3⟩ := hTA
          rw [← n2] at hc
          have h1 := cost_most HG1.out hfit HF1.out (by decide) n1 hc
          have h2 := (sum_sizes HG1.out k1 n1).2
          rw [cst_flat] at h1
          omega
        obtain ⟨hd0, hd48⟩ : 0 ≤ d ∧ d ≤ 48 := by
          obtain ⟨k1, n1, n2, n3⟩ := hTB
          rw [← n2] at hd'
          have h1 := cost_most HG1.out hfit HF1.out (by decide) n1 hd'
          have h2 := (sum_sizes HG1.out k1 n1).2
          rw [cst_flat] at h1
          omega
        have hcn4 : cn ≤ 4 := by
          have h1 := (sound_sizes HG1.out (List.getElem_mem hrl)).2.2
          rw [hxe, HCN.out] at h1
          exact h1
        obtain ⟨hp0, hp1⟩ := cost_parts HG1.out hfit HF1.out (by decide) hc hd' he1 hc0 hd0
        obtain ⟨ho0, ho1⟩ := cost_rule HG1.out hfit HF1.out (by decide) hrl hc (by rw [hxe, HPP.out]; exact he2) hc0
        rw [hxe, HCN.out] at ho1
        have t0 := HQ6.out.cell 0
        have t1 := HQ6.out.cell 1
        have t2 := HQ6.out.cell 2
        have z0 := HZ.out.cell 0
        have z1 := HZ.out.cell 1
        simp only [List.getElem?_toArray, List.getElem?_cons_zero, List.getElem?_cons_succ] at t0 t1 t2 z0 z1
        clear HTL HBL
        have HTL := Lib.hid HQ6.out.lt
        have HZL := Lib.hid HZ.out.lt
        clear hsz1 hsz2 hfit hTA hTB hc hd' he1 he2 HTB HR6 HQ6 HG1 HF1 hxe hrl' HPP HCN HXR
        go_upto_region 12 with fail
        obtain ⟨yo, rfl⟩ : ∃ yo : Nat → Value, yo = y := ⟨_, rfl⟩
        have hcat1 : ¬ 9223372036854775807 < Sa.size + Sb.size := by omega
        have hcat2 : ¬ 9223372036854775807 < Sa.size + pp.size := by omega
        refine wp_region_head 17 3 (by kernel_rfl) (fun y => (Value.agg cells) :: (Value.slice XA xs.length xk) :: (Value.slice YA ys.length yk) :: (Value.pointer (some ⟨g, 0, none⟩)) :: undef :: undef :: (Value.bool false) :: (Value.bool true) :: (Value.pointer (some ⟨q, 0, none⟩)) :: (Value.int IntKind.i64 ↑j) :: u10 :: (Value.string Sa) :: (Value.string Sb) :: (Value.pointer (some ⟨gz, 0, none⟩)) :: undef :: undef :: undef :: undef :: (Value.bool true) :: (Value.agg #[Value.int IntKind.i64 1, Value.int IntKind.u8 1, Value.slice A0 lettersR.length k0]) :: (Value.int IntKind.i64 ↑j) :: (Value.bool false) :: u22 :: u23 :: u24 :: u25 :: u26 :: u27 :: u28 :: u29 :: u30 :: u31 :: u32 :: u33 :: u34 :: u35 :: u36 :: u37 :: u38 :: u39 :: u40 :: u41 :: u42 :: u43 :: u44 :: u45 :: u46 :: (yo 0) :: (yo 1) :: (yo 2) :: (yo 3) :: (yo 4) :: (yo 5) :: (yo 6) :: (yo 7) :: (yo 8) :: (yo 9) :: (yo 10) :: (yo 11) :: (yo 12) :: (yo 13) :: (yo 14) :: (Value.agg #[Value.string pp, Value.slice CR cn kr, Value.int IntKind.u8 rl, Value.int IntKind.u8 rr, Value.int IntKind.i64 rf, Value.int IntKind.i64 rt]) :: y 0 :: y 1 :: y 2 :: y 3 :: y 4 :: y 5 :: y 6 :: y 7 :: y 8 :: y 9 :: y 10 :: y 11 :: y 12 :: y 13 :: y 14 :: y 15 :: y 16 :: undef :: undef :: undef :: undef :: undef :: undef :: undef :: undef :: undef :: undef :: undef :: undef :: undef :: undef :: undef :: undef :: undef :: undef :: undef :: undef :: undef :: undef :: undef :: undef :: undef :: undef :: undef :: undef :: undef :: undef :: undef :: undef :: undef :: [])
          (fun _ w' => Below V.heap.size V w') (phiP [pv (.agg #[.int .i64 1, .int .u8 1, .slice (some ⟨b, o, none⟩) r2.length k']), pv (.string Sa), pv (.int .i64 c), pv (.agg #[.int .i64 1, .int .u8 1, .slice (some ⟨b, o, none⟩) r2.length k']), pv (.string Sb), pv (.int .i64 d), pv (.agg #[.int .i64 1, .int .u8 1, .slice (some ⟨b, o, none⟩) r2.length k']), pv (.string Sa), pv (.string Sb), pv (.string (Sa ++ Sb)), pv (.int .i64 e1), pv (.agg #[.int .i64 1, .int .u8 1, .slice (some ⟨b, o, none⟩) r2.length k']), pv (.string Sa), pv (.pointer (some ⟨gz, 0, none⟩)), pv (.string pp), pv (.string (Sa ++ pp)), pv (.int .i64 e2)]) (fun i => match i with | 0 => undef | 1 => undef | 2 => undef | 3 => undef | 4 => undef | 5 => undef | 6 => undef | 7 => undef | 8 => undef | 9 => undef | 10 => undef | 11 => undef | 12 => undef | 13 => undef | 14 => undef | 15 => undef | 16 => undef | _ => undef)
          (by kernel_rfl) (by kernel_rfl) (by kernel_rfl) (by kernel_rfl) (fun i v wa wb h hb => phiP_keep (stay_cons (pv_st) (stay_cons (pv_st) (stay_cons (pv_st) (stay_cons (pv_st) (stay_cons (pv_st) (stay_cons (pv_st) (stay_cons (pv_st) (stay_cons (pv_st) (stay_cons (pv_st) (stay_cons (pv_st) (stay_cons (pv_st) (stay_cons (pv_st) (stay_cons (pv_st) (stay_cons (pv_st) (stay_cons (pv_st) (stay_cons (pv_st) (stay_cons (pv_st) stay_nil))))))))))))))))) h hb) (Below.refl _ _).drew [0, 1, 2, 3, 4, 5, 6, 7, 8, 9, 10, 11, 12, 13, 14, 15, 16] (by kernel_rfl) ?_ ?_
        · refine allCons ?_ (allCons ?_ (allCons ?_ (allCons ?_ (allCons ?_ (allCons ?_ (allCons ?_ (allCons ?_ (allCons ?_ (allCons ?_ (allCons ?_ (allCons ?_ (allCons ?_ (allCons ?_ (allCons ?_ (allCons ?_ (allCons ?_ (allNil)))))))))))))))))
          all_goals intro y w10 K hS hd hK
          · have qq0 := (hS.cell (p := ⟨q, 0, none⟩) HTL.out).trans t0
            have qq1 := (hS.cell (p := ⟨q, 1, none⟩) HTL.out).trans t1
            have qq2 := (hS.cell (p := ⟨q, 2, none⟩) HTL.out).trans t2
            refine wpOp_step rfl (fun K2 hK2 => ?_)
            go_simp
            exact hK2 _ _ (hK _ _ hS rfl (Below.refl _ _))
          · refine wpOp_step rfl (fun K2 hK2 => ?_)
            go_simp
            exact hK2 _ _ (hK _ _ hS rfl (Below.refl _ _))
          · have e0 : y 0 = _ := hd 0 rfl
            have e1 : y 1 = _ := hd 1 rfl
            obtain ⟨y, rfl⟩ := upd_at (y := y) (i := 0) e0
            obtain ⟨y, rfl⟩ := upd_at (y := y) (i := 1) e1
            dsimp [upd]
            refine wpOp_step rfl (fun K2 hK2 => ?_)
            go_simp
            refine (HC1.out w10 hS).mono ?_
            rintro e' w2 ⟨rfl, hb2⟩
            exact hK2 _ _ (hK _ _ (below_next hS hb2) rfl hb2)
          · have qq0 := (hS.cell (p := ⟨q, 0, none⟩) HTL.out).trans t0
            have qq1 := (hS.cell (p := ⟨q, 1, none⟩) HTL.out).trans t1
            have qq2 := (hS.cell (p := ⟨q, 2, none⟩) HTL.out).trans t2
            refine wpOp_step rfl (fun K2 hK2 => ?_)
            go_simp
            exact hK2 _ _ (hK _ _ hS rfl (Below.refl _ _))
          · refine wpOp_step rfl (fun K2 hK2 => ?_)
            go_simp
            exact hK2 _ _ (hK _ _ hS rfl (Below.refl _ _))
          · have e3 : y 3 = _ := hd 3 rfl
            have e4 : y 4 = _ := hd 4 rfl
            obtain ⟨y, rfl⟩ := upd_at (y := y) (i := 3) e3
            obtain ⟨y, rfl⟩ := upd_at (y := y) (i := 4) e4
            dsimp [upd]
            refine wpOp_step rfl (fun K2 hK2 => ?_)
            go_simp
            refine (HC2.out w10 hS).mono ?_
            rintro e' w2 ⟨rfl, hb2⟩
            exact hK2 _ _ (hK _ _ (below_next hS hb2) rfl hb2)
          · have qq0 := (hS.cell (p := ⟨q, 0, none⟩) HTL.out).trans t0
            have qq1 := (hS.cell (p := ⟨q, 1, none⟩) HTL.out).trans t1
            have qq2 := (hS.cell (p := ⟨q, 2, none⟩) HTL.out).trans t2
            refine wpOp_step rfl (fun K2 hK2 => ?_)
            go_simp
            exact hK2 _ _ (hK _ _ hS rfl (Below.refl _ _))
          · refine wpOp_step rfl (fun K2 hK2 => ?_)
            go_simp
            exact hK2 _ _ (hK _ _ hS rfl (Below.refl _ _))
          · refine wpOp_step rfl (fun K2 hK2 => ?_)
            go_simp
            exact hK2 _ _ (hK _ _ hS rfl (Below.refl _ _))
          · have e7 : y 7 = _ := hd 7 rfl
            have e8 : y 8 = _ := hd 8 rfl
            obtain ⟨y, rfl⟩ := upd_at (y := y) (i := 7) e7
            obtain ⟨y, rfl⟩ := upd_at (y := y) (i := 8) e8
            dsimp [upd]
            refine wpOp_step rfl (fun K2 hK2 => ?_)
            go_simp
            exact hK2 _ _ (hK _ _ hS rfl (Below.refl _ _))
          · have e6 : y 6 = _ := hd 6 rfl
            have e9 : y 9 = _ := hd 9 rfl
            obtain ⟨y, rfl⟩ := upd_at (y := y) (i := 6) e6
            obtain ⟨y, rfl⟩ := upd_at (y := y) (i := 9) e9
            dsimp [upd]
            refine wpOp_step rfl (fun K2 hK2 => ?_)
            go_simp
            refine (HC3.out w10 hS).mono ?_
            rintro e' w2 ⟨rfl, hb2⟩
            exact hK2 _ _ (hK _ _ (below_next hS hb2) rfl hb2)
          · have qq0 := (hS.cell (p := ⟨q, 0, none⟩) HTL.out).trans t0
            have qq1 := (hS.cell (p := ⟨q, 1, none⟩) HTL.out).trans t1
            have qq2 := (hS.cell (p := ⟨q, 2, none⟩) HTL.out).trans t2
            refine wpOp_step rfl (fun K2 hK2 => ?_)
            go_simp
            exact hK2 _ _ (hK _ _ hS rfl (Below.refl _ _))
          · refine wpOp_step rfl (fun K2 hK2 => ?_)
            go_simp
            exact hK2 _ _ (hK _ _ hS rfl (Below.refl _ _))
          · refine wpOp_step rfl (fun K2 hK2 => ?_)
            go_simp
            exact hK2 _ _ (hK _ _ hS rfl (Below.refl _ _))
          · have e13 : y 13 = _ := hd 13 rfl
            obtain ⟨y, rfl⟩ := upd_at (y := y) (i := 13) e13
            dsimp [upd]
            have qz0 := (hS.cell (p := ⟨gz, 0, none⟩) HZL.out).trans z0
            refine wpOp_step rfl (fun K2 hK2 => ?_)
            go_simp
            exact hK2 _ _ (hK _ _ hS rfl (Below.refl _ _))
          · have e12 : y 12 = _ := hd 12 rfl
            have e14 : y 14 = _ := hd 14 rfl
            obtain ⟨y, rfl⟩ := upd_at (y := y) (i := 12) e12
            obtain ⟨y, rfl⟩ := upd_at (y := y) (i := 14) e14
            dsimp [upd]
            refine wpOp_step rfl (fun K2 hK2 => ?_)
            go_simp
            exact hK2 _ _ (hK _ _ hS rfl (Below.refl _ _))
          · have e11 : y 11 = _ := hd 11 rfl
            have e15 : y 15 = _ := hd 15 rfl
            obtain ⟨y, rfl⟩ := upd_at (y := y) (i := 11) e11
            obtain ⟨y, rfl⟩ := upd_at (y := y) (i := 15) e15
            dsimp [upd]
            refine wpOp_step rfl (fun K2 hK2 => ?_)
            go_simp
            refine (HC4.out w10 hS).mono ?_
            rintro e' w2 ⟨rfl, hb2⟩
            exact hK2 _ _ (hK _ _ (below_next hS hb2) rfl hb2)
        · intro y w10 f hS hd
          have e2' : y 2 = _ := hd 2 (by decide)
          have e5 : y 5 = _ := hd 5 (by decide)
          have e10 : y 10 = _ := hd 10 (by decide)
          have e16 : y 16 = _ := hd 16 (by decide)
          clear hd
          obtain ⟨y, rfl⟩ := upd_at (y := y) (i := 2) e2'
          obtain ⟨y, rfl⟩ := upd_at (y := y) (i := 5) e5
          obtain ⟨y, rfl⟩ := upd_at (y := y) (i := 10) e10
          obtain ⟨y, rfl⟩ := upd_at (y := y) (i := 16) e16
          dsimp [upd]
          refine wpAny_one (i := 17) (by kernel_rfl) ?_
          refine wpOp_step rfl (fun K2 hK2 => ?_)
          go_simp
          refine hK2 _ _ ?_
          clear hK2 K2
          refine wpAny_one (i := 18) (by kernel_rfl) ?_
          refine wpOp_step rfl (fun K2 hK2 => ?_)
          go_simp
          refine hK2 _ _ ?_
          clear hK2 K2
          refine wpAny_one (i := 19) (by kernel_rfl) ?_
          refine wpOp_step rfl (fun K2 hK2 => ?_)
          go_simp
          refine hK2 _ _ ?_
          clear hK2 K2
          refine wpAny_one (i := 20) (by kernel_rfl) ?_
          refine wpOp_step rfl (fun K2 hK2 => ?_)
          go_simp
          refine hK2 _ _ ?_
          clear hK2 K2
          clear e2' e5 e10 e16
          refine wpAny_done (by kernel_rfl) ?_ _
          have HEND := Lib.hid (below_next BE.out hS)
          have w1c : ¬ c < 0 := by omega
          have w1d : ¬ d < 0 := by omega
          have w1e : ¬ e1 < 0 := by omega
          have w1f : ¬ e2 < 0 := by omega
          have z1' := (hS.cell (p := ⟨gz, 1, none⟩) HZL.out).trans z1
          clear hS HC1 HC2 HC3 HC4 t0 t1 t2 z0 z1 HTL HZL hcat1 hcat2
          have hcn0 : (0 : Int) ≤ (cn : Int) := by omega
          have hcn5 : (cn : Int) ≤ 4 := by omega
          go_wp2_with fail
          go_ret
          exact ⟨rfl, by have := HEND.out; rwa [hg] at this⟩
end Go.Proofs.Ytghjpblfneldcaa

/-! sixdotlaw06.TranslateParts: the row. -/
namespace Go.Proofs.Ytghjpblfneldcaa
open Go.ChangeShapes Go.WideShapes Go.ChangeAt Go.WideMaps Go.WideElems Go.RowKit

theorem own : ownKnob Try.prog.godebug = none := by kernel_rfl
theorem laidOut : laidOutB Try.prog = true := by kernel_rfl
set_option maxRecDepth 100000 in
theorem lifted (os : Os) (started : os.Started) (H : Type) (enc : TypeId × Value → H) :
    ReturnsInHanded {} Try.checked os 12 .any (Rows.translatePartsSpec.pre6 enc Try.prog Try.f12 Rows.translatePartsRow.domain false) (Rows.translatePartsSpec.post enc Try.prog Try.f12 false true false false) := by
  refine returnsInHanded_of_change (C := Try.checked) own started (by kernel_rfl) Try.func12
    (ChangeSpec.witness6 (enc := enc) (C := Try.checked) false ⟨#[], #[.agg #[.slice none 0 0, .slice none 0 0, .int .u8 0, .int .u8 0, .int .u8 0, .int .u8 0, .slice none 0 0, .slice none 0 0, .int .u8 0, .int .u8 0, .int .u8 0, .int .u8 0], .slice none 0 0, .slice none 0 0], []⟩ 8 (by kernel_rfl) (by kernel_rfl) (by kernel_rfl) (by kernel_rfl)) ?_
  intro W base args ds gs before hval0 hW hcnd _
  have hval : ∀ (j : Nat) t v, Try.f12.params[j]? = some t → args[j]? = some v → Value.okWide Try.prog W .any base t v := hval0
  have hW' := hW
  obtain ⟨p, q, hA0, hV, rfl, hfz, hnd⟩ := hW
  have hA : DataW.TrodAll enc Try.prog W 0 (fun _ => true) true Try.f12.params.toList args.toList ds p := hA0
  rw [Try.params12] at hA hval
  obtain ⟨v0, vs0, d0, ds0, p0, q0, hargs, rfl, rfl, h0, r0⟩ := trodAll_cons hA
  obtain ⟨v1, vs1, d1, ds1, p1, q1, rfl, rfl, rfl, h1, r1⟩ := trodAll_cons r0
  obtain ⟨v2, vs2, d2, ds2, p2, q2, rfl, rfl, rfl, h2, r2⟩ := trodAll_cons r1
  obtain ⟨rfl, rfl, rfl⟩ := trodAll_nil r2
  obtain rfl : args = #[v0, v1, v2] := by cases args; simp_all
  obtain ⟨rfl, rfl⟩ := trodVars_none hV
  have k0 := h0
  have lt0 : ∀ x ∈ p0, x.block < W.heap.size := by obtain ⟨m, hm⟩ := k0; exact DataW.trod_lt m _ _ _ hm
  have k1 := h1
  have lt1 : ∀ x ∈ p1, x.block < W.heap.size := by obtain ⟨m, hm⟩ := k1; exact DataW.trod_lt m _ _ _ hm
  have k2 := h2
  have lt2 : ∀ x ∈ p2, x.block < W.heap.size := by obtain ⟨m, hm⟩ := k2; exact DataW.trod_lt m _ _ _ hm
  obtain ⟨cells0, rfl, hcl0⟩ := open_rawtwo (hval 0 82 v0 rfl rfl) h0
  obtain ⟨XA1, xk1, xs1, rfl, hx1, hz1⟩ := open_bytesL (hval 1 25 v1 rfl rfl) h1
  obtain ⟨XA2, xk2, xs2, rfl, hx2, hz2⟩ := open_bytesL (hval 2 25 v2 rfl rfl) h2
  clear hA0 hval0
  refine (walk_parts cells0 XA1 xk1 xs1 XA2 xk2 xs2 W hcl0 hx1 hz1 hx2 hz2).mono fun e W' ⟨he, bel⟩ => ?_
  subst he
  exact ⟨_, rfl, _, _, _, [], _, [], hW', trodAll_mk1 (shut_bool Try.underlying4 _), (trodAll_cons_mk (Below.trod laidOut (by kernel_rfl) (of_decide_eq_true (by kernel_rfl)) k0 bel lt0) (trodAll_cons_mk (Below.trod laidOut (by kernel_rfl) (of_decide_eq_true (by kernel_rfl)) k1 bel lt1) (trodAll_cons_mk (Below.trod laidOut (by kernel_rfl) (of_decide_eq_true (by kernel_rfl)) k2 bel lt2) trodAll_mk0))), rfl, bel.frame _, fun h => by cases h⟩

theorem over : Rows.translatePartsRow.holds Try.pinned (OpenSpec.ofChange Rows.translatePartsSpec) :=
  OpenClaim.holds_of_wide 12 Try.f12 rfl rfl rfl rfl rfl rfl rfl ⟨rfl, rfl, rfl, rfl, rfl⟩ rfl rfl rfl rfl rfl (by kernel_rfl) Try.func12 (by kernel_rfl)
    (of_decide_eq_true (by kernel_rfl)) (by unfold Func.isWrapper; first | (rw [if_pos (by decide +kernel)]; kernel_rfl) | (rw [if_neg (by decide +kernel)]; exact ⟨rfl, rfl⟩))
    (fun os started H enc _ => lifted os started H enc)

theorem proved : Rows.TranslatePartsSaid := over
end Go.Proofs.Ytghjpblfneldcaa
