/- Package table: rules; lists of cells compared; the parts of soundness. -/
import Derived.Test.YtiedaongfjcbhaaTab3
import Derived.Test.YtiedaongfjcbhaaCellD
namespace Go.Proofs.Ytiedaongfjcbhaa
open Go.RowKit

/-- A rule of a code table. -/
structure Rule where
  p : ByteArray
  c : List Int
  l : Int
  r : Int
  f : Int
  t : Int
theorem Rule.ext_of {x y : Rule} (h1 : x.p = y.p) (h2 : x.c = y.c) (h3 : x.l = y.l) (h4 : x.r = y.r) (h5 : x.f = y.f) (h6 : x.t = y.t) : x = y := by
  cases x; cases y; simp_all
instance : DecidableEq Rule := fun x y =>
  decidable_of_iff (x.p = y.p ∧ x.c = y.c ∧ x.l = y.l ∧ x.r = y.r ∧ x.f = y.f ∧ x.t = y.t)
    ⟨fun ⟨a, b, c, d, e, f⟩ => Rule.ext_of a b c d e f, fun h => by subst h; exact ⟨rfl, rfl, rfl, rfl, rfl, rfl⟩⟩
def eqB {α : Type} [DecidableEq α] (a b : α) : Bool := decide (a = b)
theorem eqB_refl {α : Type} [DecidableEq α] {a b : α} (h : a = b) : eqB a b = true := by simp [eqB, h]
theorem eqB_ne {α : Type} [DecidableEq α] {a b : α} (h : ¬ a = b) : eqB a b = false := by simp [eqB, h]
/-- What holds of every rule that lies in memory. -/
def Rule.fits (x : Rule) : Prop :=
  x.p.size < 2 ^ 47 ∧ x.c.length < 2 ^ 47 ∧ (∀ z ∈ x.c, 0 ≤ z ∧ z < 256) ∧ (0 ≤ x.l ∧ x.l < 256) ∧ (0 ≤ x.r ∧ x.r < 256) ∧ (-9223372036854775808 ≤ x.f ∧ x.f ≤ 9223372036854775807) ∧ (-9223372036854775808 ≤ x.t ∧ x.t ≤ 9223372036854775807)

/-- Whether one of the first j is x. -/
theorem in_step {xs : List Int} {x y : Int} {j : Nat} (h : ∀ i, i < j → ¬ xs[i]? = some x) (hy : xs[j]? = some y) (hne : ¬ x = y) : ∀ i, i < j + 1 → ¬ xs[i]? = some x := by
  intro i hi e
  rcases Nat.lt_or_ge i j with g | g
  · exact h i g e
  · obtain rfl : i = j := by omega
    rw [hy] at e; injection e with e; exact hne e.symm
def inB (x : Int) (xs : List Int) : Bool := decide (x ∈ xs)
theorem inB_yes {xs : List Int} {x : Int} {j : Nat} (h : xs[j]? = some x) : inB x xs = true := by
  unfold inB; simp; exact List.mem_of_getElem? h
theorem inB_no {xs : List Int} {x : Int} {n : Nat} (hn : xs.length = n) (h : ∀ i, i < n → ¬ xs[i]? = some x) : inB x xs = false := by
  unfold inB; simp
  intro hm
  obtain ⟨i, hi, e⟩ := List.getElem_of_mem hm
  exact h i (by omega) (by rw [List.getElem?_eq_getElem hi, e])
end Go.Proofs.Ytiedaongfjcbhaa
