/- Reference of the tables: Base(0). -/
import Derived.Test.YtiedaongfjcbhaaMake1
namespace Go.Proofs.Ytiedaongfjcbhaa
open Go.RowKit

theorem RulesV.less {w : World} {lo lo' : Nat} {vals : List Value} {rs : List Rule} (h : RulesV w lo vals rs) (hl : lo' ≤ lo) : RulesV w lo' vals rs :=
  ⟨h.1, fun j hj => by
    obtain ⟨A, k, a0, a1, a2, a3, a4, a5, hs, hf⟩ := h.2 j hj
    exact ⟨A, k, a0, a1, a2, a3, a4, a5, hs.less hl, hf⟩⟩
theorem RulesW.less {w : World} {lo lo' : Nat} {vals : List Value} {rs : List Rule} (h : RulesW w lo vals rs) (hl : lo' ≤ lo) : RulesW w lo' vals rs := ⟨h.1.less hl, h.2⟩
theorem Made.less {lo lo' : Nat} {rs : List Rule} {v : Value} {w : World} (h : Made w lo v rs) (hl : lo' ≤ lo) : Made w lo' v rs := by
  obtain ⟨A, k, vals, e, ho, hr⟩ := h
  refine ⟨A, k, vals, e, ⟨ho.1, ?_⟩, hr.less hl⟩
  rcases ho.2 with h | ⟨g, cap, cur, h1, h2, h3⟩
  · exact .inl h
  · exact .inr ⟨g, cap, cur, h1, Nat.le_trans hl h2, h3⟩
theorem Made.set {w : World} {lo q i : Nat} {rs : List Rule} {v : Value} (h : Made w lo v rs) {t : TypeId} {row : Array Value} (hQ : Blk w q t row) (hne : 55 ≠ t ∧ 64 ≠ t) (u : Value) : Made (w.setCell ⟨q, i, none⟩ u) lo v rs := by
  obtain ⟨A, k, vals, e, ho, hr⟩ := h
  exact ⟨A, k, vals, e, own_set ho hQ hne.1 u, hr.set hQ hne.2 u⟩
def TableEnd (m a : Int) (rs : List Rule) (w : World) (e : Ending) (w' : World) : Prop := ∃ v, e = .returned (.agg #[.int .i64 m, .int .u8 a, v]) ∧ Made w' w.heap.size v rs ∧ Below w.heap.size w w'
set_option maxRecDepth 10000 in
set_option maxHeartbeats 1000000 in
theorem base0_any (w : World) : Calls Try.prog 36 #[.int .u8 0] w (TableEnd 1 1 lettersR w) := by
  go_enter Try.func36, Try.ntmps36
  go_wp2_with fail
  refine (letters_any _).mono ?_
  rintro e w1 ⟨v, rfl, hm, hb⟩
  obtain ⟨A, k, vals, rfl, ho, hr⟩ := hm
  have HO := Lib.hid ho
  have HR := Lib.hid hr
  have HB := Lib.hid hb
  clear ho hr hb
  have P1 := (Blk.new w #[.int .i64 0, .int .u8 0, .slice none 0 0] 31).keep HB.out (by simp)
  have BB : Hid (Below w.heap.size w ((((w1.alloc (.cells #[.int .i64 0, .int .i64 0] 91)).alloc (.cells #[.int .i64 0, .int .i64 1] 91)).alloc (.cells #[.int .i64 1, .int .i64 1] 91)).alloc (.cells #[.int .i64 1, .int .i64 0] 91))) := by
    have h1 := ((Below.refl w.heap.size w).alloc (Nat.le_refl _) (.cells #[.int .i64 0, .int .u8 0, .slice none 0 0] 31)).trans (HB.out.mono (by simp))
    have := h1.size
    exact (((h1.alloc (by omega) _).alloc (by simp; omega) _).alloc (by simp; omega) _).alloc (by simp; omega) _
  have P5 : Hid (Blk ((((w1.alloc (.cells #[.int .i64 0, .int .i64 0] 91)).alloc (.cells #[.int .i64 0, .int .i64 1] 91)).alloc (.cells #[.int .i64 1, .int .i64 1] 91)).alloc (.cells #[.int .i64 1, .int .i64 0] 91)) w.heap.size 31 #[.int .i64 0, .int .u8 0, .slice none 0 0]) := P1.box.box.box.box
  have M5 : Hid (Made ((((w1.alloc (.cells #[.int .i64 0, .int .i64 0] 91)).alloc (.cells #[.int .i64 0, .int .i64 1] 91)).alloc (.cells #[.int .i64 1, .int .i64 1] 91)).alloc (.cells #[.int .i64 1, .int .i64 0] 91)) w.heap.size (.slice A lettersR.length k) lettersR) := by
    have h0 : Made w1 w.heap.size (.slice A lettersR.length k) lettersR := Made.less ⟨A, k, vals, rfl, HO.out, HR.out⟩ (by simp)
    exact (((h0.keep (below_box _ _ _)).keep (below_box _ _ _)).keep (below_box _ _ _)).keep (below_box _ _ _)
  clear P1
  have c0 := P5.out.cell 0
  have c1 := P5.out.cell 1
  have c2 := P5.out.cell 2
  have f0 := P5.out.free 0
  have f1 := P5.out.free 1
  have f2 := P5.out.free 2
  simp only [List.getElem?_toArray, List.getElem?_cons_zero, List.getElem?_cons_succ] at c0 c1 c2
  go_wp2_with fail
  refine bodyPost_ret (v := .agg #[.int .i64 1, .int .u8 1, .slice A lettersR.length k]) (by simp [results, Try.results36, go_sem, c0, c1, c2]) rfl ⟨_, rfl, ?_, ?_⟩
  · exact Made.set (Made.set (Made.set M5.out P5.out (by decide) _) (P5.out.set 0 _) (by decide) _) ((P5.out.set 0 _).set 1 _) (by decide) _
  · exact ((BB.out.setCell (Nat.le_refl _) _).setCell (Nat.le_refl _) _).setCell (Nat.le_refl _) _
end Go.Proofs.Ytiedaongfjcbhaa
