/- Rules of the call's own: copied whole; one of them put. -/
import Derived.Test.YtjcknfaopmpocaaDoorSpoil1
import Derived.Test.YtjcknfaopmpocaaDoorGood
import Derived.Test.YtjcknfaopmpocaaDoorFrameT
namespace Go.Proofs.YtjcknfaopmpocaaDoor
open Go.RowKit

section
variable {ops : Array Oper}
/-- append of all rules of a row onto a row of the call's own. -/
theorem wpList_append_rules {rest : List Oper} {o : Oper} {a : Act} {w : World} {Q : Exit → Act → World → Prop} (hgd : o.guard = none) (s x : Operand)
    (ho : o.op = .call { callee := .builtin .append, args := #[s, x], argTypes := #[31, 31] })
    (base lo base2 : Nat) (v u : Value) (rs new : List Rule) (hs : a.eval s = v) (hm : MadeB w base lo v rs) (hx : a.eval x = u) (hn : MadeB w base2 lo u new) (hlen : rs.length + new.length ≤ 1000) (h0 : 0 < new.length) (hbase : base ≤ w.heap.size)
    (h : ∀ A' k' w', MadeB w' base lo (.slice A' (rs.length + new.length) k') (rs ++ new) → Onto base w w' → wpList Tryd.prog ops Q rest (a.put o.dst (.slice A' (rs.length + new.length) k')) w') : wpList Tryd.prog ops Q (o :: rest) a w := by
  obtain ⟨i0, hi0, hz0, hz1, hz2⟩ := info_parts info_rule
  obtain ⟨A, k, vals, e, hown, hr⟩ := hm
  obtain ⟨A2, k2, nv, e2, hown2, hnr⟩ := hn
  rcases hown2.2 with ⟨e3, hn0⟩ | ⟨g, cap, cur, e3, hg, hblk, hcap, _⟩
  · omega
  · have hcell := hown2.cells (g := g) (by rw [e3]; rfl)
    refine wpList_append_own w hgd s x 31 ho base 36 i0 (.agg #[.string ⟨#[]⟩, .slice none 0 0, .int .u8 0, .int .u8 0, .int .i64 0, .int .i64 0]) 6 64 Tryd.underlying31 hi0 hz0 hz1 hz2 rfl (by decide) v rs.length vals hs hown ⟨g, 0, none⟩ new.length cap nv (hx.trans e3) hnr.1.1 hcell hnr.oneCell ?_ ?_ hbase ?_
    · unfold maxLen; omega
    · omega
    intro v' w' h1 h2 _
    have hO := own_onto hown h2
    have hM := Made.app hr hnr h1 hO h0
    obtain ⟨A', k', rfl⟩ := own_form h1
    exact h A' k' w' hM hO
end
theorem RulesV.put {w : World} {lo k : Nat} {A : Option Addr} {vals : List Value} {rs : List Rule} {y : Rule} {i : Nat} (h : RulesV w lo vals rs) (hi : i < rs.length) (hs : SeqT w lo A y.c) (hf : y.fits) :
    RulesV w lo ((((((vals.set (i * 6) (.string y.p)).set (i * 6 + 1) (.slice A y.c.length k)).set (i * 6 + 2) (.int .u8 y.l)).set (i * 6 + 3) (.int .u8 y.r)).set (i * 6 + 4) (.int .i64 y.f)).set (i * 6 + 5) (.int .i64 y.t)) (rs.set i y) := by
  obtain ⟨hl, hr⟩ := h
  refine ⟨by simp [hl], fun j hj => ?_⟩
  have hj' : j < rs.length := by rwa [List.length_set] at hj
  by_cases hji : j = i
  · subst hji
    have e : (rs.set j y)[j]'hj = y := List.getElem_set_self _
    rw [e]
    refine ⟨A, k, ?_, ?_, ?_, ?_, ?_, ?_, hs, hf⟩
    · rw [List.getElem?_set_ne (by omega), List.getElem?_set_ne (by omega), List.getElem?_set_ne (by omega), List.getElem?_set_ne (by omega), List.getElem?_set_ne (by omega), List.getElem?_set_self (by omega)]
    · rw [List.getElem?_set_ne (by omega), List.getElem?_set_ne (by omega), List.getElem?_set_ne (by omega), List.getElem?_set_ne (by omega), List.getElem?_set_self (by simp; omega)]
    · rw [List.getElem?_set_ne (by omega), List.getElem?_set_ne (by omega), List.getElem?_set_ne (by omega), List.getElem?_set_self (by simp; omega)]
    · rw [List.getElem?_set_ne (by omega), List.getElem?_set_ne (by omega), List.getElem?_set_self (by simp; omega)]
    · rw [List.getElem?_set_ne (by omega), List.getElem?_set_self (by simp; omega)]
    · rw [List.getElem?_set_self (by simp; omega)]
  · obtain ⟨A', k', a0, a1, a2, a3, a4, a5, hs', hf'⟩ := hr j hj'
    have e : (rs.set i y)[j]'hj = rs[j] := by rw [List.getElem_set_ne (Ne.symm hji)]
    rw [e]
    have key : ∀ q u, q < 6 → vals[j * 6 + q]? = some u → ((((((vals.set (i * 6) (.string y.p)).set (i * 6 + 1) (.slice A y.c.length k)).set (i * 6 + 2) (.int .u8 y.l)).set (i * 6 + 3) (.int .u8 y.r)).set (i * 6 + 4) (.int .i64 y.f)).set (i * 6 + 5) (.int .i64 y.t))[j * 6 + q]? = some u := by
      intro q u hq hu
      rw [List.getElem?_set_ne (by omega), List.getElem?_set_ne (by omega), List.getElem?_set_ne (by omega), List.getElem?_set_ne (by omega), List.getElem?_set_ne (by omega), List.getElem?_set_ne (by omega)]
      exact hu
    exact ⟨A', k', key 0 _ (by omega) a0, key 1 _ (by omega) a1, key 2 _ (by omega) a2, key 3 _ (by omega) a3, key 4 _ (by omega) a4, key 5 _ (by omega) a5, hs', hf'⟩
theorem RulesW.put {w : World} {lo k : Nat} {A : Option Addr} {vals : List Value} {rs : List Rule} {y : Rule} {i : Nat} (h : RulesW w lo vals rs) (hi : i < rs.length) (hs : SeqC w lo A y.c k) (hf : y.fits) :
    RulesW w lo ((((((vals.set (i * 6) (.string y.p)).set (i * 6 + 1) (.slice A y.c.length k)).set (i * 6 + 2) (.int .u8 y.l)).set (i * 6 + 3) (.int .u8 y.r)).set (i * 6 + 4) (.int .i64 y.f)).set (i * 6 + 5) (.int .i64 y.t)) (rs.set i y) := by
  refine ⟨h.1.put hi hs.1 hf, fun j A' n' k' hj => ?_⟩
  have hl := h.1.1
  by_cases hji : j = i
  · subst hji
    rw [List.getElem?_set_ne (by omega), List.getElem?_set_ne (by omega), List.getElem?_set_ne (by omega), List.getElem?_set_ne (by omega), List.getElem?_set_self (by simp; omega)] at hj
    injection hj with hj
    injection hj with e1 e2 e3
    have := hs.2
    omega
  · rw [List.getElem?_set_ne (by omega), List.getElem?_set_ne (by omega), List.getElem?_set_ne (by omega), List.getElem?_set_ne (by omega), List.getElem?_set_ne (by omega), List.getElem?_set_ne (by omega)] at hj
    exact h.2 j A' n' k' hj
theorem MadeB.put {w : World} {base lo n k g kc i : Nat} {A : Option Addr} {rs : List Rule} {y : Rule} (h : MadeB w base lo (.slice (some ⟨g, 0, none⟩) n k) rs) (hi : i < rs.length) (hs : SeqC w lo A y.c kc) (hf : y.fits) :
    MadeB ((((((w.setCell ⟨g, i * 6, none⟩ (.string y.p)).setCell ⟨g, i * 6 + 1, none⟩ (.slice A y.c.length kc)).setCell ⟨g, i * 6 + 2, none⟩ (.int .u8 y.l)).setCell ⟨g, i * 6 + 3, none⟩ (.int .u8 y.r)).setCell ⟨g, i * 6 + 4, none⟩ (.int .i64 y.f)).setCell ⟨g, i * 6 + 5, none⟩ (.int .i64 y.t)) base lo (.slice (some ⟨g, 0, none⟩) n k) (rs.set i y) ∧
    w.grownBy ((((((w.setCell ⟨g, i * 6, none⟩ (.string y.p)).setCell ⟨g, i * 6 + 1, none⟩ (.slice A y.c.length kc)).setCell ⟨g, i * 6 + 2, none⟩ (.int .u8 y.l)).setCell ⟨g, i * 6 + 3, none⟩ (.int .u8 y.r)).setCell ⟨g, i * 6 + 4, none⟩ (.int .i64 y.f)).setCell ⟨g, i * 6 + 5, none⟩ (.int .i64 y.t)) (some g) := by
  obtain ⟨A0, k0, vals, e, hown, hr⟩ := h
  injection e with e1 e2 e3
  subst e1 e2 e3
  have s0 := hown.stored (i * 6) (.string y.p)
  have s1 := s0.1.stored (i * 6 + 1) (.slice A y.c.length kc)
  have s2 := s1.1.stored (i * 6 + 2) (.int .u8 y.l)
  have s3 := s2.1.stored (i * 6 + 3) (.int .u8 y.r)
  have s4 := s3.1.stored (i * 6 + 4) (.int .i64 y.f)
  have s5 := s4.1.stored (i * 6 + 5) (.int .i64 y.t)
  have hg := gb_trans (gb_trans (gb_trans (gb_trans (gb_trans s0.2 s1.2) s2.2) s3.2) s4.2) s5.2
  refine ⟨⟨_, _, _, by rw [List.length_set], by rw [List.length_set]; exact s5.1, ?_⟩, hg⟩
  have hR : ∀ {vs : List Value} {l : List Rule}, RulesW w lo vs l → RulesW _ lo vs l := fun h => h.grown hown hg
  exact hR (hr.put hi hs hf)
end Go.Proofs.YtjcknfaopmpocaaDoor
