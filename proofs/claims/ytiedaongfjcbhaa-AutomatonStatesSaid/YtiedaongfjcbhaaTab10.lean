/- Package table: Check, Valid. -/
import Derived.Test.YtiedaongfjcbhaaTab9
import Derived.Deep.RegionHeld3
import Derived.Deep.RegionWith
namespace Go.Proofs.Ytiedaongfjcbhaa
open Go.RowKit

/-- The first number below n for which p holds. -/
def firstB (p : Nat → Bool) (n : Nat) : Option Nat := (List.range n).find? p
theorem firstB_yes {p : Nat → Bool} {n i : Nat} (h : ∀ j, j < i → p j = false) (hp : p i = true) (hi : i < n) : firstB p n = some i := by
  unfold firstB
  rw [List.find?_range_eq_some]
  exact ⟨hp, List.mem_range.2 hi, fun j hj => by simp [h j hj]⟩
theorem firstB_no {p : Nat → Bool} {n : Nat} (h : ∀ j, j < n → p j = false) : firstB p n = none := by
  unfold firstB
  rw [List.find?_eq_none]
  intro x hx
  simp [h x (List.mem_range.1 hx)]
theorem below_step {p : Nat → Bool} {j : Nat} (h : ∀ i, i < j → p i = false) (hp : p j = false) : ∀ i, i < j + 1 → p i = false := fun i hi => by
  rcases Nat.lt_or_ge i j with g | g
  · exact h i g
  · obtain rfl : i = j := by omega
    exact hp
def badAt (m : Int) (rs : List Rule) (j : Nat) : Bool := match rs[j]? with
  | some x => !soundB x m || memB x (rs.take j)
  | none => false
theorem badAt_at {m : Int} {rs : List Rule} {j : Nat} {x : Rule} (h : rs[j]? = some x) : badAt m rs j = (!soundB x m || memB x (rs.take j)) := by
  unfold badAt; rw [h]
def chkI (m a : Int) (rs : List Rule) : Int := if numsB m a rs.length then (match firstB (badAt m rs) rs.length with | some i => (i : Nat) | none => 0) else -1
def chkE (m a : Int) (rs : List Rule) : Int := if numsB m a rs.length then (match firstB (badAt m rs) rs.length with | some _ => 20 | none => 0) else 1
theorem chk_nums {m a : Int} {rs : List Rule} (h : numsB m a rs.length = false) : chkI m a rs = -1 ∧ chkE m a rs = 1 := by
  unfold chkI chkE; rw [h]; exact ⟨rfl, rfl⟩
theorem chk_bad {m a : Int} {rs : List Rule} {i : Nat} (hn : numsB m a rs.length = true) (h : ∀ j, j < i → badAt m rs j = false) (hp : badAt m rs i = true) (hi : i < rs.length) : chkI m a rs = i ∧ chkE m a rs = 20 := by
  unfold chkI chkE; rw [hn, firstB_yes h hp hi]; exact ⟨rfl, rfl⟩
theorem chk_ok {m a : Int} {rs : List Rule} (hn : numsB m a rs.length = true) (h : ∀ j, j < rs.length → badAt m rs j = false) : chkI m a rs = 0 ∧ chkE m a rs = 0 := by
  unfold chkI chkE; rw [hn, firstB_no h]; exact ⟨rfl, rfl⟩
theorem keepC {w w' : World} {B : Nat} (hb : Below B w w') {b o : Nat} {v : Value} (h : w.cell? ⟨b, o, none⟩ = some v) (hB : b < B) : w'.cell? ⟨b, o, none⟩ = some v := (hb.cell (p := ⟨b, o, none⟩) hB).trans h
theorem keepS {V w' w'' : World} {g h : Nat} {p : ByteArray} {A E : Option Addr} {c k n q : Nat} {l r f t m : Int} (hb : Below w'.heap.size w' w'')
    (H : Below V.heap.size V w' ∧ g < w'.heap.size ∧ h < w'.heap.size ∧ w'.cell? ⟨g, 0, none⟩ = some (.string p) ∧ w'.cell? ⟨g, 1, none⟩ = some (.slice A c k) ∧ w'.cell? ⟨g, 2, none⟩ = some (.int .u8 l) ∧ w'.cell? ⟨g, 3, none⟩ = some (.int .u8 r) ∧ w'.cell? ⟨g, 4, none⟩ = some (.int .i64 f) ∧ w'.cell? ⟨g, 5, none⟩ = some (.int .i64 t) ∧ w'.cell? ⟨h, 0, none⟩ = some (.int .i64 m) ∧ w'.cell? ⟨h, 2, none⟩ = some (.slice E n q)) :
    Below V.heap.size V w'' ∧ g < w''.heap.size ∧ h < w''.heap.size ∧ w''.cell? ⟨g, 0, none⟩ = some (.string p) ∧ w''.cell? ⟨g, 1, none⟩ = some (.slice A c k) ∧ w''.cell? ⟨g, 2, none⟩ = some (.int .u8 l) ∧ w''.cell? ⟨g, 3, none⟩ = some (.int .u8 r) ∧ w''.cell? ⟨g, 4, none⟩ = some (.int .i64 f) ∧ w''.cell? ⟨g, 5, none⟩ = some (.int .i64 t) ∧ w''.cell? ⟨h, 0, none⟩ = some (.int .i64 m) ∧ w''.cell? ⟨h, 2, none⟩ = some (.slice E n q) := by
  obtain ⟨h1, h2, h3, a0, a1, a2, a3, a4, a5, b0, b2⟩ := H
  have hs := hb.size
  exact ⟨h1.trans (hb.mono (by have := h1.size; omega)), by omega, by omega, keepC hb a0 h2, keepC hb a1 h2, keepC hb a2 h2, keepC hb a3 h2, keepC hb a4 h2, keepC hb a5 h2, keepC hb b0 h3, keepC hb b2 h3⟩

theorem below_drew_next {a V w2 : World} (h : Below a.heap.size a V) (hb : Below V.drew.heap.size V.drew w2) : Below a.heap.size a w2 := (Below.drew h).trans (hb.mono h.size)
section
variable {P : Program} {ops : Array Oper} {Q : Exit → Act → World → Prop} {md : Region.Mode} {S : World → Prop}
/-- An operation whose guard shuts it out. -/
theorem wpAnyH_skip {i : Nat} {oi : Oper} {fuel : Nat} {listed : Array Bool} {a : Act} {w : World} (hi : ops[i]? = some oi)
    (hs : Region.noSelect ops = true) (hf : Region.free md ops listed i = true) (hr : (Region.ready md ops listed).contains i = true)
    (hQ : ∀ c a w, Q (.panic c) (a.put oi.dst undef) w → Q (.panic c) a w) (hw : Region.wanted oi (yielded ops a.tmps) = false) (hS : S w)
    (h : wpAnyH P md ops Q S fuel (listed.setIfInBounds i true) (a.put oi.dst undef) w) : wpAnyH P md ops Q S (fuel + 1) listed a w :=
  wpAnyH_take hi hs hf hr hQ (Or.inr ⟨hw, rfl⟩) hS h
end
theorem chkE_ok (m a : Int) (rs : List Rule) : (chkE m a rs == 0) = (numsB m a rs.length && (firstB (badAt m rs) rs.length).isNone) := by
  unfold chkE
  cases numsB m a rs.length
  · rfl
  · cases firstB (badAt m rs) rs.length <;> rfl
def validB (m a : Int) (rs : List Rule) : Bool := chkE m a rs == 0
end Go.Proofs.Ytiedaongfjcbhaa
