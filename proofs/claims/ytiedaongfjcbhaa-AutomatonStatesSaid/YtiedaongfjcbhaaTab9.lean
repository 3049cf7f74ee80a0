/- Package table: lists of rules in memory; soundNumbers, hasRule. -/
import Derived.Test.YtiedaongfjcbhaaTab7
namespace Go.Proofs.Ytiedaongfjcbhaa
open Go.RowKit

/-- The six cells of a rule, from an address on. -/
def RuleAt (w : World) (B b o : Nat) (x : Rule) : Prop :=
  ∃ A k, w.cell? ⟨b, o, none⟩ = some (.string x.p) ∧ w.cell? ⟨b, o + 1, none⟩ = some (.slice A x.c.length k) ∧ w.cell? ⟨b, o + 2, none⟩ = some (.int .u8 x.l) ∧ w.cell? ⟨b, o + 3, none⟩ = some (.int .u8 x.r) ∧ w.cell? ⟨b, o + 4, none⟩ = some (.int .i64 x.f) ∧ w.cell? ⟨b, o + 5, none⟩ = some (.int .i64 x.t) ∧ Seq w B A x.c ∧ x.fits
/-- A slice that reads as a list of rules. -/
def Rules (w : World) (B : Nat) (A : Option Addr) (rs : List Rule) : Prop :=
  0 < rs.length → ∃ b o : Nat, A = some ⟨b, o, none⟩ ∧ b < B ∧ ∀ j (h : j < rs.length), RuleAt w B b (o + j * 6) rs[j]
theorem RuleAt.keep {w w' : World} {B b o : Nat} {x : Rule} (h : RuleAt w B b o x) (hB : b < B) (hb : Below B w w') : RuleAt w' B b o x := by
  obtain ⟨A, k, h0, h1, h2, h3, h4, h5, hs, hf⟩ := h
  have key : ∀ i, w'.cell? ⟨b, i, none⟩ = w.cell? ⟨b, i, none⟩ := fun i => hb.cell (p := ⟨b, i, none⟩) hB
  exact ⟨A, k, (key _).trans h0, (key _).trans h1, (key _).trans h2, (key _).trans h3, (key _).trans h4, (key _).trans h5, hs.keep hb, hf⟩
theorem Rules.keep {w w' : World} {B : Nat} {A : Option Addr} {rs : List Rule} (h : Rules w B A rs) (hb : Below B w w') : Rules w' B A rs := fun hl => by
  obtain ⟨b, o, e, hB, hc⟩ := h hl
  exact ⟨b, o, e, hB, fun j hj => (hc j hj).keep hB hb⟩
theorem RuleAt.more {w : World} {B B' b o : Nat} {x : Rule} (h : RuleAt w B b o x) (hB : B ≤ B') : RuleAt w B' b o x := by
  obtain ⟨A, k, h0, h1, h2, h3, h4, h5, hs, hf⟩ := h
  exact ⟨A, k, h0, h1, h2, h3, h4, h5, hs.more hB, hf⟩
theorem Rules.more {w : World} {B B' : Nat} {A : Option Addr} {rs : List Rule} (h : Rules w B A rs) (hB : B ≤ B') : Rules w B' A rs := fun hl => by
  obtain ⟨b, o, e, hb, hc⟩ := h hl
  exact ⟨b, o, e, by omega, fun j hj => (hc j hj).more hB⟩
theorem Rules.up {w w' : World} {A : Option Addr} {rs : List Rule} (h : Rules w w.heap.size A rs) (hb : Below w.heap.size w w') : Rules w' w'.heap.size A rs := (h.keep hb).more hb.size
theorem Rules.take {w : World} {B : Nat} {A : Option Addr} {rs : List Rule} (h : Rules w B A rs) (k : Nat) : Rules w B A (rs.take k) := fun hl => by
  have hl' : 0 < rs.length := by have := List.length_take_le k rs; have := List.length_take_le' k rs; omega
  obtain ⟨b, o, e, hB, hc⟩ := h hl'
  exact ⟨b, o, e, hB, fun j hj => by rw [List.getElem_take]; exact hc j _⟩

def numsB (m a n : Int) : Bool := decide (1 ≤ m) && decide (m ≤ 8) && decide (a ≠ 0) && decide (a < 2 ^ m.toNat) && decide (1 ≤ n) && decide (n ≤ 64)

def memB (y : Rule) (rs : List Rule) : Bool := decide (y ∈ rs)
theorem memB_yes {rs : List Rule} {y : Rule} {j : Nat} (h : rs[j]? = some y) : memB y rs = true := by
  unfold memB; simp; exact List.mem_of_getElem? h
theorem memB_no {rs : List Rule} {y : Rule} {n : Nat} (hn : rs.length = n) (h : ∀ i, i < n → ¬ rs[i]? = some y) : memB y rs = false := by
  unfold memB; simp
  intro hm
  obtain ⟨i, hi, e⟩ := List.getElem_of_mem hm
  exact h i (by omega) (by rw [List.getElem?_eq_getElem hi, e])
theorem notin_step {α : Type} {xs : List α} {x y : α} {j : Nat} (h : ∀ i, i < j → ¬ xs[i]? = some x) (hy : xs[j]? = some y) (hne : ¬ y = x) : ∀ i, i < j + 1 → ¬ xs[i]? = some x := by
  intro i hi e
  rcases Nat.lt_or_ge i j with g | g
  · exact h i g e
  · obtain rfl : i = j := by omega
    rw [hy] at e; injection e with e; exact hne e
theorem eqB_no {α : Type} [DecidableEq α] {a b : α} (h : eqB a b = false) : ¬ a = b := by simpa [eqB] using h
theorem eqB_yes {α : Type} [DecidableEq α] {a b : α} (h : eqB a b = true) : a = b := by simpa [eqB] using h
theorem pow_wrap (m : Int) (h1 : 1 ≤ m) (h2 : m ≤ 8) : IntKind.i64.wrap (2 ^ m.toNat) = 2 ^ m.toNat := by
  have h := allB_int (n := 9) (p := fun m => decide (IntKind.i64.wrap (2 ^ m) = 2 ^ m)) (by decide +kernel) m (by omega) (by omega)
  exact of_decide_eq_true h
theorem nums_ways (m a : Int) (n : Nat) (P : Int) (hP : IntKind.i64.wrap (2 ^ m.toNat) = P) :
    (decide (1 ≤ m) = false ∧ numsB m a n = false) ∨ (1 ≤ m ∧ decide (m ≤ 8) = false ∧ numsB m a n = false) ∨ (1 ≤ m ∧ m ≤ 8 ∧ (a != 0) = false ∧ numsB m a n = false) ∨ (1 ≤ m ∧ m ≤ 8 ∧ (a != 0) = true ∧ decide (a < P) = false ∧ numsB m a n = false) ∨ (1 ≤ m ∧ m ≤ 8 ∧ (a != 0) = true ∧ a < P ∧ decide (1 ≤ (n : Int)) = false ∧ numsB m a n = false) ∨ (1 ≤ m ∧ m ≤ 8 ∧ (a != 0) = true ∧ a < P ∧ (1 : Int) ≤ (n : Int) ∧ decide ((n : Int) ≤ 64) = false ∧ numsB m a n = false) ∨ (1 ≤ m ∧ m ≤ 8 ∧ (a != 0) = true ∧ a < P ∧ (1 : Int) ≤ (n : Int) ∧ (n : Int) ≤ 64 ∧ numsB m a n = true) := by
  unfold numsB
  by_cases h1 : 1 ≤ m
  · by_cases h2 : m ≤ 8
    · rw [pow_wrap m h1 h2] at hP
      rw [hP]
      by_cases h3 : a = 0
      · simp [h1, h2, h3]
      · by_cases h4 : a < P
        · by_cases h5 : (1 : Int) ≤ (n : Int)
          · by_cases h6 : (n : Int) ≤ 64
            · simp [h1, h2, h3, h4, h5, h6]
            · simp [h1, h2, h3, h4, h5, h6]
          · simp [h1, h2, h3, h4, h5]
        · simp [h1, h2, h3, h4]
    · simp [h1, h2]
  · simp [h1]
end Go.Proofs.Ytiedaongfjcbhaa
