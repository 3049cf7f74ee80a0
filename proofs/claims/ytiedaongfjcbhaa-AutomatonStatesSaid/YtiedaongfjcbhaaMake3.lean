/- Slices of rules that the call owns: appending to them. -/
import Derived.Test.YtiedaongfjcbhaaMake2
import Derived.Test.YtiedaongfjcbhaaInv2
namespace Go.Proofs.Ytiedaongfjcbhaa
open Go.RowKit

/-- Rules in a row of the call's own (from block base on), whose cells lie from lo on. -/
def MadeB (w : World) (base lo : Nat) (v : Value) (rs : List Rule) : Prop := ∃ A k vals, v = .slice A rs.length k ∧ w.ownsRow base 55 6 v rs.length vals ∧ RulesW w lo vals rs
/-- Rules in a row that nobody holds yet. -/
def NewR (lo : Nat) (rs : List Rule) (v : Value) (w : World) : Prop := ∃ g vals, v = .slice (some ⟨g, 0, none⟩) rs.length rs.length ∧ Blk w g 55 vals.toArray ∧ RulesW w lo vals rs
theorem Made.b {w : World} {lo : Nat} {v : Value} {rs : List Rule} (h : Made w lo v rs) : MadeB w lo lo v rs := h
theorem MadeB.one {w : World} {base lo : Nat} {v : Value} {rs : List Rule} (h : MadeB w base lo v rs) (hl : lo ≤ base) : Made w lo v rs := by
  obtain ⟨A, k, vals, e, ho, hr⟩ := h
  refine ⟨A, k, vals, e, ⟨ho.1, ?_⟩, hr⟩
  rcases ho.2 with h | ⟨g, cap, cur, h1, h2, h3⟩
  · exact .inl h
  · exact .inr ⟨g, cap, cur, h1, Nat.le_trans hl h2, h3⟩
theorem MadeB.keep {w w' : World} {base lo : Nat} {v : Value} {rs : List Rule} (h : MadeB w base lo v rs) (hb : Below w.heap.size w w') : MadeB w' base lo v rs := by
  obtain ⟨A, k, vals, e, ho, hr⟩ := h
  exact ⟨A, k, vals, e, own_keep ho hb, hr.below hb⟩
theorem MadeB.set {w : World} {base lo q i : Nat} {rs : List Rule} {v : Value} (h : MadeB w base lo v rs) {t : TypeId} {row : Array Value} (hQ : Blk w q t row) (hne : 55 ≠ t ∧ 64 ≠ t) (u : Value) : MadeB (w.setCell ⟨q, i, none⟩ u) base lo v rs := by
  obtain ⟨A, k, vals, e, ho, hr⟩ := h
  exact ⟨A, k, vals, e, own_set ho hQ hne.1 u, hr.set hQ hne.2 u⟩
theorem MadeB.rules {w : World} {base lo : Nat} {v : Value} {rs : List Rule} (h : MadeB w base lo v rs) : ∃ A k, v = .slice A rs.length k ∧ Rules w w.heap.size A rs ∧ rs.length ≤ k := by
  obtain ⟨A, k, vals, rfl, ho, hr⟩ := h
  obtain ⟨h1, _, h3⟩ := hr.rules ho
  exact ⟨A, k, rfl, h1, h3⟩
theorem NewR.keep {w w' : World} {lo : Nat} {v : Value} {rs : List Rule} (h : NewR lo rs v w) (hb : Below w.heap.size w w') : NewR lo rs v w' := by
  obtain ⟨g, vals, e, hB, hr⟩ := h
  exact ⟨g, vals, e, hB.keep hb (Blk.lt hB), hr.below hb⟩
theorem NewR.lit {w : World} {lo : Nat} {vals : List Value} {rs : List Rule} (h : RulesW w lo vals rs) : NewR lo rs (.slice (some ⟨w.heap.size, 0, none⟩) rs.length rs.length) (w.alloc (.cells vals.toArray 55)) :=
  ⟨_, vals, rfl, Blk.new w vals.toArray _, h.below (below_box w _ _)⟩
theorem RulesV.oneCell {w : World} {lo : Nat} {vals : List Value} {rs : List Rule} (h : RulesV w lo vals rs) : ∀ u ∈ vals, u.oneCell' = true := by
  intro u hu
  obtain ⟨i, hi, rfl⟩ := List.getElem_of_mem hu
  have hl := h.1
  obtain ⟨A, k, a0, a1, a2, a3, a4, a5, _, _⟩ := h.2 (i / 6) (by omega)
  have hu2 : vals[i]? = some vals[i] := List.getElem?_eq_getElem hi
  have h6 : i % 6 < 6 := Nat.mod_lt _ (by decide)
  have hdm : i = i / 6 * 6 + i % 6 := by omega
  rcases (by omega : i % 6 = 0 ∨ i % 6 = 1 ∨ i % 6 = 2 ∨ i % 6 = 3 ∨ i % 6 = 4 ∨ i % 6 = 5) with e | e | e | e | e | e
  · rw [show i / 6 * 6 = i by omega, hu2] at a0; injection a0 with a0; rw [a0]; rfl
  · rw [show i / 6 * 6 + 1 = i by omega, hu2] at a1; injection a1 with a1; rw [a1]; rfl
  · rw [show i / 6 * 6 + 2 = i by omega, hu2] at a2; injection a2 with a2; rw [a2]; rfl
  · rw [show i / 6 * 6 + 3 = i by omega, hu2] at a3; injection a3 with a3; rw [a3]; rfl
  · rw [show i / 6 * 6 + 4 = i by omega, hu2] at a4; injection a4 with a4; rw [a4]; rfl
  · rw [show i / 6 * 6 + 5 = i by omega, hu2] at a5; injection a5 with a5; rw [a5]; rfl
theorem RulesV.app {w : World} {lo : Nat} {va vb : List Value} {ra rb : List Rule} (ha : RulesV w lo va ra) (hb : RulesV w lo vb rb) : RulesV w lo (va ++ vb) (ra ++ rb) := by
  obtain ⟨hl, hr⟩ := ha
  obtain ⟨hl2, hr2⟩ := hb
  refine ⟨by simp [hl, hl2, Nat.add_mul], fun j hj => ?_⟩
  rcases Nat.lt_or_ge j ra.length with g | g
  · obtain ⟨A', k', a0, a1, a2, a3, a4, a5, hs', hf'⟩ := hr j g
    have e : (ra ++ rb)[j] = ra[j] := List.getElem_append_left g
    have key : ∀ i u, i < va.length → va[i]? = some u → (va ++ vb)[i]? = some u := fun i u hi hu => by rw [List.getElem?_append_left hi]; exact hu
    rw [e]
    exact ⟨A', k', key _ _ (by omega) a0, key _ _ (by omega) a1, key _ _ (by omega) a2, key _ _ (by omega) a3, key _ _ (by omega) a4, key _ _ (by omega) a5, hs', hf'⟩
  · have hjl : j - ra.length < rb.length := by simp at hj; omega
    obtain ⟨A', k', a0, a1, a2, a3, a4, a5, hs', hf'⟩ := hr2 (j - ra.length) hjl
    have e : (ra ++ rb)[j] = rb[j - ra.length] := List.getElem_append_right g
    have key : ∀ i u, i < 6 → vb[(j - ra.length) * 6 + i]? = some u → (va ++ vb)[j * 6 + i]? = some u := fun i u hi hu => by
      rw [List.getElem?_append_right (by omega), ← hu]
      congr 1; omega
    rw [e]
    exact ⟨A', k', key 0 _ (by omega) a0, key 1 _ (by omega) a1, key 2 _ (by omega) a2, key 3 _ (by omega) a3, key 4 _ (by omega) a4, key 5 _ (by omega) a5, hs', hf'⟩
theorem RulesW.oneCell {w : World} {lo : Nat} {vals : List Value} {rs : List Rule} (h : RulesW w lo vals rs) : ∀ u ∈ vals, u.oneCell' = true := h.1.oneCell
theorem RulesW.app {w : World} {lo : Nat} {va vb : List Value} {ra rb : List Rule} (ha : RulesW w lo va ra) (hb : RulesW w lo vb rb) : RulesW w lo (va ++ vb) (ra ++ rb) := by
  refine ⟨ha.1.app hb.1, fun j A n k hj => ?_⟩
  have hl := ha.1.1
  rcases Nat.lt_or_ge (j * 6 + 1) va.length with g | g
  · rw [List.getElem?_append_left g] at hj
    exact ha.2 j A n k hj
  · rw [List.getElem?_append_right g] at hj
    refine hb.2 (j - ra.length) A n k ?_
    rw [← hj]; congr 1; omega
/-- w' has grown from w by a row of rules from block base on. -/
def Onto (base : Nat) (w w' : World) : Prop := ∃ row, w.grownBy w' row ∧ ∀ j, row = some j → base ≤ j ∧ ∃ cur, Blk w j 55 cur
theorem Onto.blk {base q : Nat} {w w' : World} {t : TypeId} {row : Array Value} (h : Onto base w w') (hQ : Blk w q t row) (hne : 55 ≠ t) : Blk w' q t row := by
  obtain ⟨r, hg, hr⟩ := h
  refine (hg.block q (Blk.lt hQ) fun e => ?_).trans hQ
  obtain ⟨_, cur, hc⟩ := hr q e.symm
  exact Blk.type_ne hc hQ hne rfl
theorem Onto.low {base q : Nat} {w w' : World} {t : TypeId} {row : Array Value} (h : Onto base w w') (hQ : Blk w q t row) (hq : q < base) : Blk w' q t row := by
  obtain ⟨r, hg, hr⟩ := h
  refine (hg.block q (Blk.lt hQ) fun e => ?_).trans hQ
  have := (hr q e.symm).1
  omega
theorem Onto.below {base : Nat} {w w' : World} (h : Onto base w w') (hB : base ≤ w.heap.size) : Below base w w' := by
  obtain ⟨r, hg, hr⟩ := h
  exact (Below.refl _ _).grown hg hB fun j hj => (hr j hj).1
theorem Onto.rulesW {base lo : Nat} {w w' : World} {vals : List Value} {rs : List Rule} (h : Onto base w w') (hr : RulesW w lo vals rs) : RulesW w' lo vals rs := by
  refine hr.move fun b cur hB => ?_
  exact (h.blk hB (by decide)).trans hB.symm
theorem Onto.size {base : Nat} {w w' : World} (h : Onto base w w') : w.heap.size ≤ w'.heap.size := by
  obtain ⟨r, hg, _⟩ := h
  exact hg.size
theorem own_onto {w w' : World} {base n : Nat} {v : Value} {vals : List Value} (ho : w.ownsRow base 55 6 v n vals) (hg : w.grownBy w' v.ownBlock) : Onto base w w' := by
  refine ⟨v.ownBlock, hg, fun j hj => ⟨(ho.lt j hj).1, ?_⟩⟩
  rcases ho.2 with ⟨rfl, _⟩ | ⟨g, cap, cur, rfl, _, hblk, _⟩
  · cases hj
  · have e : g = j := by simpa [Value.ownBlock] using hj
    subst e
    exact ⟨cur, hblk⟩
theorem Made.app {w w' : World} {base lo : Nat} {v' : Value} {vals nv : List Value} {rs new : List Rule} (hr : RulesW w lo vals rs) (hn : RulesW w lo nv new) (h1 : w'.ownsRow base 55 6 v' (rs.length + new.length) (vals ++ nv)) (ho : Onto base w w') (h0 : 0 < new.length) : MadeB w' base lo v' (rs ++ new) := by
  have h2 : w'.ownsRow base 55 6 v' (rs ++ new).length (vals ++ nv) := by rw [List.length_append]; exact h1
  have hl : (rs ++ new).length = rs.length + new.length := List.length_append
  obtain ⟨A, k, e⟩ : ∃ A k, v' = .slice A (rs ++ new).length k := by
    rcases h2.2 with ⟨rfl, h0'⟩ | ⟨g, cap, cur, rfl, _⟩
    · omega
    · exact ⟨_, _, rfl⟩
  exact ⟨A, k, _, e, h2, (ho.rulesW hr).app (ho.rulesW hn)⟩
theorem cell_of_blk {w : World} {g : Nat} {t : TypeId} {vals : List Value} (h : Blk w g t vals.toArray) : ∀ j u, vals[j]? = some u → w.cell? ((⟨g, 0, none⟩ : Addr).add j) = some u := by
  intro j u hu
  rw [add_zero_addr, h.cell j]
  simpa using hu
section
variable {ops : Array Oper}
/-- append onto rules of the call's own, in a region that draws its order. -/
theorem wpOp_append_made {i : Nat} {o : Oper} {a : Act} {w : World} {K : Act → World → Prop} {Q : Exit → Act → World → Prop} (hi : ops[i]? = some o) (hgd : o.guard = none) (s x : Operand) 
    (ho : o.op = .call { callee := .builtin .append, args := #[s, x], argTypes := #[29, 29] })
    (base lo : Nat) (v u : Value) (rs new : List Rule) (hs : a.eval s = v) (hm : MadeB w base lo v rs) (hx : a.eval x = u) (hn : NewR lo new u w) (hlen : rs.length + new.length ≤ 1000) (h0 : 0 < new.length) (hbase : base ≤ w.heap.size)
    (h : ∀ v' w', MadeB w' base lo v' (rs ++ new) → Onto base w w' → K (a.put o.dst v') w') : wpOp Try.prog ops Q i K a w := by
  obtain ⟨i0, hi0, hz0, hz1, hz2⟩ := info_parts info_rule
  obtain ⟨A, k, vals, e, hown, hr⟩ := hm
  obtain ⟨g, nv, e2, hB, hnr⟩ := hn
  refine wpOp_step hi fun K2 hK2 => ?_
  refine step_append_own hgd s x 29 ho base 55 i0 (.agg #[.string ⟨#[]⟩, .slice none 0 0, .int .u8 0, .int .u8 0, .int .i64 0, .int .i64 0]) 6 64 Try.underlying29 hi0 hz0 hz1 hz2 rfl (by decide) v rs.length vals hs hown ⟨g, 0, none⟩ new.length new.length nv (hx.trans e2) hnr.1.1 (cell_of_blk hB) hnr.oneCell ?_ ?_ hbase ?_
  · unfold maxLen; omega
  · omega
  intro v' w' h1 h2
  have hO := own_onto hown h2
  exact hK2 _ _ (h v' w' (Made.app hr hnr h1 hO h0) hO)
/-- The same, in a region in its own order. -/
theorem wpList_append_made {rest : List Oper} {o : Oper} {a : Act} {w : World} {Q : Exit → Act → World → Prop} (hgd : o.guard = none) (s x : Operand)
    (ho : o.op = .call { callee := .builtin .append, args := #[s, x], argTypes := #[29, 29] })
    (base lo : Nat) (v u : Value) (rs new : List Rule) (hs : a.eval s = v) (hm : MadeB w base lo v rs) (hx : a.eval x = u) (hn : NewR lo new u w) (hlen : rs.length + new.length ≤ 1000) (h0 : 0 < new.length) (hbase : base ≤ w.heap.size)
    (h : ∀ v' w', MadeB w' base lo v' (rs ++ new) → Onto base w w' → wpList Try.prog ops Q rest (a.put o.dst v') w') : wpList Try.prog ops Q (o :: rest) a w := by
  obtain ⟨i0, hi0, hz0, hz1, hz2⟩ := info_parts info_rule
  obtain ⟨A, k, vals, e, hown, hr⟩ := hm
  obtain ⟨g, nv, e2, hB, hnr⟩ := hn
  refine wpList_append_own w hgd s x 29 ho base 55 i0 (.agg #[.string ⟨#[]⟩, .slice none 0 0, .int .u8 0, .int .u8 0, .int .i64 0, .int .i64 0]) 6 64 Try.underlying29 hi0 hz0 hz1 hz2 rfl (by decide) v rs.length vals hs hown ⟨g, 0, none⟩ new.length new.length nv (hx.trans e2) hnr.1.1 (cell_of_blk hB) hnr.oneCell ?_ ?_ hbase ?_
  · unfold maxLen; omega
  · omega
  intro v' w' h1 h2 _
  have hO := own_onto hown h2
  exact h v' w' (Made.app hr hnr h1 hO h0) hO
end
end Go.Proofs.Ytiedaongfjcbhaa
