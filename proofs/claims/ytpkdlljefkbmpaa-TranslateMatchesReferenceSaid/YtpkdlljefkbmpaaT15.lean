/- Merged by program: Mw -/
import Derived.Test.YtpkdlljefkbmpaaT6
import Derived.Test.YtpkdlljefkbmpaaQ23
import Derived.Test.YtpkdlljefkbmpaaQ17

/-! Drawn regions that make a writing's block and store into it what a call has returned. -/
namespace Go.Proofs.Ytpkdlljefkbmpaa
open Go.RowKit Go.Maps
def WrZ (cs ks : List Int) (z : (Option Addr × Nat) × (Option Addr × Nat)) (w : World) : Prop := Seq w w.heap.size z.1.1 cs ∧ SeqN w w.heap.size z.2.1 ks
theorem wrZ_keep {cs ks : List Int} {z : (Option Addr × Nat) × (Option Addr × Nat)} {w w' : World} (h : WrZ cs ks z w) (hb : Below w.heap.size w w') : WrZ cs ks z w' := ⟨h.1.up hb, h.2.up hb⟩
def IntB (ks : List Int) (z : (Option Addr × Nat) × (Option Addr × Nat)) (w : World) : Prop := 0 < ks.length → ∃ b o cur, z.2.1 = some ⟨b, o, none⟩ ∧ Blk w b 3 cur
theorem intB_keep {ks : List Int} {z : (Option Addr × Nat) × (Option Addr × Nat)} {w w' : World} (h : IntB ks z w) (hb : Below w.heap.size w w') : IntB ks z w' := fun h0 => by
 obtain ⟨b, o, cur, e, hB⟩ := h h0
 exact ⟨b, o, cur, e, hB.keep hb hB.lt⟩
def putW (w : World) (g : Nat) (x0 x1 : Value) : World := (w.setCell ⟨g, 0, none⟩ x0).setCell ⟨g, 1, none⟩ x1
def WrB (w : World) (g : Nat) : Prop := ∃ A n k B m l, Blk w g 60 #[.slice A n k, .slice B m l]
theorem wrZ_put {cs ks : List Int} {z : (Option Addr × Nat) × (Option Addr × Nat)} {w : World} {g : Nat} (h : WrZ cs ks z w) (hB : WrB w g) (A B : Option Addr) (n k m l : Nat) : WrZ cs ks z (putW w g (.slice A n k) (.slice B m l)) := by
 obtain ⟨A', n', k', B', m', l', hB⟩ := hB
 have h1 := hB.set 0 (.slice A n k)
 have hs : (putW w g (.slice A n k) (.slice B m l)).heap.size = w.heap.size := by unfold putW; simp
 unfold WrZ
 rw [hs]
 exact ⟨(h.1.put hB (fun i z => two_slices i .u8 z) _).put h1 (fun i z => two_slices i .u8 z) _, (h.2.put hB (fun i z => two_slices i .i64 z) _).put h1 (fun i z => two_slices i .i64 z) _⟩
theorem wrB_put {w : World} {g g' : Nat} (hB : WrB w g) (A B : Option Addr) (n k m l : Nat) : WrB (putW w g' (.slice A n k) (.slice B m l)) g := by
 obtain ⟨A', n', k', B', m', l', hB⟩ := hB
 by_cases e : g = g'
 ·
  subst e
  exact ⟨_, _, _, _, _, _, (hB.set 0 _).set 1 _⟩
 ·
  exact ⟨_, _, _, _, _, _, ((Below.heap_setCell _ ⟨g', 1, none⟩ _ g e).trans (Below.heap_setCell _ ⟨g', 0, none⟩ _ g e)).trans hB⟩
inductive OpW where
 | val (v : Value)
 | wr (f : (Option Addr × Nat) × (Option Addr × Nat) → Value)
 | blk
 | any
def phiW (V : World) (cs ks : List Int) (L : List OpW) (i : Nat) (v : Value) (w : World) : Prop := match L[i]? with
 | some (.val u) => v = u
 | some (.wr f) => ∃ z, v = f z ∧ WrZ cs ks z w
 | some .blk => ∃ g, v = .pointer (some ⟨g, 0, none⟩) ∧ V.heap.size ≤ g ∧ WrB w g
 | _ => True
theorem phiW_keep {V w w' : World} {cs ks : List Int} {L : List OpW} {i : Nat} {v : Value} (h : phiW V cs ks L i v w) (h1 : ∀ z, WrZ cs ks z w → WrZ cs ks z w') (h2 : ∀ g, WrB w g → WrB w' g) : phiW V cs ks L i v w' := by
 unfold phiW at h ⊢
 split at h
 ·
  exact h
 ·
  obtain ⟨z, e, hz⟩ := h; exact ⟨z, e, h1 z hz⟩
 ·
  obtain ⟨g, e, hg, hb⟩ := h; exact ⟨g, e, hg, h2 g hb⟩
 ·
  trivial
theorem phiW_below {V w w' : World} {cs ks : List Int} {L : List OpW} {i : Nat} {v : Value} (hb : Below w.heap.size w w') (h : phiW V cs ks L i v w) : phiW V cs ks L i v w' :=
 phiW_keep h (fun _ hz => wrZ_keep hz hb) (fun _ ⟨_, _, _, _, _, _, hB⟩ => ⟨_, _, _, _, _, _, hB.keep hb hB.lt⟩)
theorem phiW_store {V w : World} {cs ks : List Int} {L : List OpW} {i : Nat} {v : Value} {g : Nat} (hB : WrB w g) (A B : Option Addr) (n k m l : Nat) (h : phiW V cs ks L i v w) : phiW V cs ks L i v (putW w g (.slice A n k) (.slice B m l)) :=
 phiW_keep h (fun _ hz => wrZ_put hz hB A B n k m l) (fun _ h => wrB_put h A B n k m l)
def stW (V : World) (cs ks : List Int) (ia is : Nat) (b : Nat → Bool) (y : Nat → Value) (w : World) : Prop :=
 Below V.heap.size V w ∧ (b is = true → b ia = true ∧ ∃ g z, y ia = .pointer (some ⟨g, 0, none⟩) ∧ V.heap.size ≤ g ∧ Blk w g 60 #[.slice z.1.1 cs.length z.1.2, .slice z.2.1 ks.length z.2.2] ∧ WrZ cs ks z w)
theorem stW_same {V w w' : World} {cs ks : List Int} {ia is : Nat} {b : Nat → Bool} {y : Nat → Value} {i : Nat} {v : Value} (h : stW V cs ks ia is b y w) (hi : i ≠ ia ∧ i ≠ is) (hb : Below w.heap.size w w') : stW V cs ks ia is (fun j => if j = i then true else b j) (upd y i v) w' := by
 refine ⟨h.1.trans (hb.mono h.1.size), fun h7 => ?_⟩
 have h7' : b is = true := by simpa [Ne.symm hi.2] using h7
 obtain ⟨h6, g, z, e, hg, hB, hz⟩ := h.2 h7'
 refine ⟨by simp [h6], g, z, ?_, hg, hB.keep hb hB.lt, wrZ_keep hz hb⟩
 unfold upd; rw [if_neg (Ne.symm hi.1)]; exact e
theorem stW_alloc {V w : World} {cs ks : List Int} {ia is : Nat} {b : Nat → Bool} {y : Nat → Value} {v : Value} (h : stW V cs ks ia is b y w) (hne : is ≠ ia) (hb : b ia = false) (o : Obj) : stW V cs ks ia is (fun j => if j = ia then true else b j) (upd y ia v) (w.alloc o) := by
 refine ⟨h.1.alloc h.1.size _, fun h7 => ?_⟩
 have h7' : b is = true := by simpa [hne] using h7
 have := (h.2 h7').1
 rw [hb] at this; cases this
theorem stW_store {V w : World} {cs ks : List Int} {ia is : Nat} {b : Nat → Bool} {y : Nat → Value} {v : Value} {g : Nat} {z : (Option Addr × Nat) × (Option Addr × Nat)} (h : stW V cs ks ia is b y w) (hne : is ≠ ia) (hb : b ia = true) (e : y ia = .pointer (some ⟨g, 0, none⟩)) (hg : V.heap.size ≤ g) (hB : WrB w g) (hz : WrZ cs ks z w) :
  stW V cs ks ia is (fun j => if j = is then true else b j) (upd y is v) (putW w g (.slice z.1.1 cs.length z.1.2) (.slice z.2.1 ks.length z.2.2)) := by
 have hp := wrZ_put hz hB z.1.1 z.2.1 cs.length z.1.2 ks.length z.2.2
 obtain ⟨A', n', k', B', m', l', hB⟩ := hB
 refine ⟨(h.1.setCell hg _).setCell hg _, fun _ => ⟨by simp [hb], g, z, ?_, hg, (hB.set 0 _).set 1 _, hp⟩⟩
 unfold upd; rw [if_neg (Ne.symm hne)]; exact e
theorem two_res {A B : Option Addr} {a b c d : Nat} {x y : Int} (i : Nat) (z : Int) : (#[Value.slice A a b, Value.slice B c d, .int .i64 x, .int .i64 y] : Array Value)[i]? ≠ some (.int .u8 z) := by
 match i with
 | 0 => simp
 | 1 => simp
 | 2 => simp
 | 3 => simp
 | n + 4 => simp
theorem wrZ_res {cs ks : List Int} {z : (Option Addr × Nat) × (Option Addr × Nat)} {w : World} {e i : Nat} {row : Array Value} (h : WrZ cs ks z w) (hI : IntB ks z w) (hB : Blk w e 64 row) (hr : ∀ (i : Nat) (z : Int), row[i]? ≠ some (Value.int .u8 z)) (v : Value) : WrZ cs ks z (w.setCell ⟨e, i, none⟩ v) ∧ IntB ks z (w.setCell ⟨e, i, none⟩ v) := by
 have hs : (w.setCell ⟨e, i, none⟩ v).heap.size = w.heap.size := by simp
 refine ⟨⟨?_, ?_⟩, fun h0 => ?_⟩
 ·
  rw [hs]; exact h.1.put hB hr v
 ·
  rw [hs]
  intro h0
  obtain ⟨b, o, e1, hb, hc⟩ := h.2 h0
  obtain ⟨b', o', cur, e2, hi⟩ := hI h0
  rw [e1] at e2
  injection e2 with e2
  injection e2 with e2
  subst e2
  have hne : b ≠ e := Blk.type_ne hi hB (by decide)
  exact ⟨b, o, e1, hb, fun j hj => (World.cell?_of_block (a := ⟨b, o + j, none⟩) (Below.heap_setCell w ⟨e, i, none⟩ v b hne)).trans (hc j hj)⟩
 ·
  obtain ⟨b, o, cur, e2, hi⟩ := hI h0
  exact ⟨b, o, cur, e2, (Below.heap_setCell w ⟨e, i, none⟩ v b (Blk.type_ne hi hB (by decide))).trans hi⟩
end Go.Proofs.Ytpkdlljefkbmpaa
