/- Package table: rules; lists of cells compared; the parts of soundness. -/
import Derived.Test.YtiedaongfjcbhabGreatDoorTab3
import Derived.Test.YtiedaongfjcbhabGreatDoorCellD
namespace Go.Proofs.YtiedaongfjcbhabGreatDoor
open Go.RowKit

/-- A rule of a code table. -/
structure Rule where
  p : ByteArray
  c : List Int
  l : Int
  r : Int
  f : Int
  t : Int
theorem Rule.ext_of {x y : Rule} (h1 : x.p = y.p) (h2 : x.c = y.c) (h3 : x.l = y.l) (h4 : x.r = y.r) (h5 : x.f = y.f) (h6 : x.t = y.t) : x = y := by
  cases x; cases y; simp_all
instance : DecidableEq Rule := fun x y =>
  decidable_of_iff (x.p = y.p ∧ x.c = y.c ∧ x.l = y.l ∧ x.r = y.r ∧ x.f = y.f ∧ x.t = y.t)
    ⟨fun ⟨a, b, c, d, e, f⟩ => Rule.ext_of a b c d e f, fun h => by subst h; exact ⟨rfl, rfl, rfl, rfl, rfl, rfl⟩⟩
def eqB {α : Type} [DecidableEq α] (a b : α) : Bool := decide (a = b)
theorem eqB_refl {α : Type} [DecidableEq α] {a b : α} (h : a = b) : eqB a b = true := by simp [eqB, h]
theorem eqB_ne {α : Type} [DecidableEq α] {a b : α} (h : ¬ a = b) : eqB a b = false := by simp [eqB, h]
/-- What holds of every rule that lies in memory. -/
def Rule.fits (x : Rule) : Prop :=
  x.p.size < 2 ^ 47 ∧ x.c.length < 2 ^ 47 ∧ (∀ z ∈ x.c, 0 ≤ z ∧ z < 256) ∧ (0 ≤ x.l ∧ x.l < 256) ∧ (0 ≤ x.r ∧ x.r < 256) ∧ (-9223372036854775808 ≤ x.f ∧ x.f ≤ 9223372036854775807) ∧ (-9223372036854775808 ≤ x.t ∧ x.t ≤ 9223372036854775807)

set_option maxRecDepth 10000 in
set_option maxHeartbeats 400000 in
theorem equalCells_any (A B : Option Addr) (n m k l : Nat) (xs ys : List Int) (w : World) (hn : xs.length = n) (hm : ys.length = m) (hx : Seq w w.heap.size A xs) (hy : Seq w w.heap.size B ys) (hmax : n < 2 ^ 47) :
    Calls Tryz.prog 67 #[.slice A n k, .slice B m l] w fun e w' => e = .returned (.bool (eqB xs ys)) ∧ Below w.heap.size w w' := by
  by_cases hl : n = m
  · subst hl
    have HM := Lib.hid hm
    have HN := Lib.hid hn
    clear hm hn
    go_enter Tryz.func67, Tryz.ntmps67
    go_wp2
    go_loopw [13] (fun i wr => ∃ j : Nat, j ≤ n ∧ i = .int .i64 j ∧ xs.take j = ys.take j ∧ Below w.heap.size w wr) (fun i _ => n - (intOf i).toNat)
    case atStart => exact ⟨0, by omega, rfl, rfl, Below.refl _ _⟩
    case round =>
      obtain ⟨j, hj, rfl, ht, hb⟩ := hrel
      by_cases hlt : j < n
      · obtain ⟨b1, o1, e1, hB1, c1⟩ := hx.keep hb (by have := HN.out; omega)
        obtain ⟨b2, o2, e2, hB2, c2⟩ := hy.keep hb (by have := HM.out; omega)
        subst e1 e2
        have d1 := c1 j (by have := HN.out; omega)
        have d2 := c2 j (by have := HM.out; omega)
        have HT := Lib.hid (take_same (xs := xs) (ys := ys) (k := j) (by have := HN.out; omega) (by have := HM.out; omega))
        clear c1 c2 hx hy
        generalize xs[j]'(by have := HN.out; omega) = x at *
        generalize ys[j]'(by have := HM.out; omega) = y at *
        have hj0 : (0 : Int) ≤ (j : Int) := by omega
        have hjn : (j : Int) < (n : Int) := by omega
        have HTT := Lib.hid ht
        clear ht
        go_wp2
        go_quiet (fail)
        go_wp2
        · rename_i hne
          go_ret
          have hd : ¬ xs = ys := fun e => by have := HT.out; rw [e] at this; simp at hne; exact hne (this.1 rfl).2
          exact ⟨ret_bool (eqB_ne hd).symm, below_dN hb⟩
        · rename_i heq
          refine ⟨⟨j + 1, by omega, by go_num, ?_, below_dN hb⟩, by simp [intOf]; omega⟩
          exact HT.out.2 ⟨HTT.out, by simpa using heq⟩
      · have : j = n := by omega
        subst this
        have HTT := Lib.hid ht
        clear ht
        go_wp2
        go_ret
        have e1 : xs = ys := by rw [← List.take_of_length_le (i := j) (l := xs) (by have := HN.out; omega), HTT.out, List.take_of_length_le (by have := HM.out; omega)]
        exact ⟨ret_bool (eqB_refl e1).symm, hb⟩
  · have hne : ¬ xs.length = ys.length := by omega
    clear hn hm
    go_enter Tryz.func67, Tryz.ntmps67
    go_wp2
    go_ret
    exact ⟨ret_bool (eqB_ne fun e => hne (by rw [e])).symm, Below.refl _ _⟩
/-- Whether one of the first j is x. -/
theorem in_step {xs : List Int} {x y : Int} {j : Nat} (h : ∀ i, i < j → ¬ xs[i]? = some x) (hy : xs[j]? = some y) (hne : ¬ x = y) : ∀ i, i < j + 1 → ¬ xs[i]? = some x := by
  intro i hi e
  rcases Nat.lt_or_ge i j with g | g
  · exact h i g e
  · obtain rfl : i = j := by omega
    rw [hy] at e; injection e with e; exact hne e.symm
def inB (x : Int) (xs : List Int) : Bool := decide (x ∈ xs)
theorem inB_yes {xs : List Int} {x : Int} {j : Nat} (h : xs[j]? = some x) : inB x xs = true := by
  unfold inB; simp; exact List.mem_of_getElem? h
theorem inB_no {xs : List Int} {x : Int} {n : Nat} (hn : xs.length = n) (h : ∀ i, i < n → ¬ xs[i]? = some x) : inB x xs = false := by
  unfold inB; simp
  intro hm
  obtain ⟨i, hi, e⟩ := List.getElem_of_mem hm
  exact h i (by omega) (by rw [List.getElem?_eq_getElem hi, e])
set_option maxRecDepth 10000 in
theorem index_any (A : Option Addr) (n k : Nat) (xs : List Int) (x : Int) (w : World) (hn : xs.length = n) (hx : Seq w w.heap.size A xs) (hmax : n < 2 ^ 47) :
    Calls Tryz.prog 79 #[.slice A n k, .int .u8 x] w fun e w' => (∃ v : Int, e = .returned (.int .i64 v) ∧ decide (0 ≤ v) = inB x xs) ∧ w = w' := by
  have HN := Lib.hid hn
  clear hn
  go_enter Tryz.func79, Tryz.ntmps79
  go_wp2
  go_loop [8] (fun i => ∃ j : Nat, j ≤ n ∧ i = .int .i64 j ∧ ∀ i, i < j → ¬ xs[i]? = some x) (fun i => n - (intOf i).toNat)
  case atStart => exact ⟨0, by omega, rfl, fun i h => absurd h (by omega)⟩
  case round =>
    obtain ⟨j, hj, rfl, hto⟩ := hrel
    have HTO := Lib.hid hto
    clear hto
    by_cases hlt : j < n
    · obtain ⟨b1, o1, e1, hB1, c1⟩ := hx (by have := HN.out; omega)
      subst e1
      have d1 := c1 j (by have := HN.out; omega)
      have HY : Hid (xs[j]? = some (xs[j]'(by have := HN.out; omega))) := List.getElem?_eq_getElem _
      clear c1 hx
      generalize xs[j]'(by have := HN.out; omega) = y at *
      have hj0 : (0 : Int) ≤ (j : Int) := by omega
      have hjn : (j : Int) < (n : Int) := by omega
      by_cases hxy : x = y
      · subst hxy
        go_wp2
        go_ret
        exact ⟨⟨_, rfl, by rw [inB_yes HY.out]; simp⟩, rfl⟩
      · have hb : (x == y) = false := beq_eq_false_iff_ne.2 hxy
        have HXY := Lib.hid hxy
        clear hxy
        go_wp2
        exact ⟨⟨j + 1, by omega, by go_num, in_step HTO.out HY.out HXY.out⟩, by simp [intOf]; omega⟩
    · have : j = n := by omega
      subst this
      go_wp2
      go_ret
      exact ⟨⟨-1, rfl, by rw [inB_no HN.out HTO.out]; rfl⟩, rfl⟩
theorem contains_any (A : Option Addr) (n k : Nat) (xs : List Int) (x : Int) (w : World) (hn : xs.length = n) (hx : Seq w w.heap.size A xs) (hmax : n < 2 ^ 47) :
    Calls Tryz.prog 66 #[.slice A n k, .int .u8 x] w fun e w' => e = .returned (.bool (inB x xs)) ∧ w = w' := by
  have HN := Lib.hid hn
  clear hn
  go_enter Tryz.func66, Tryz.ntmps66
  go_wp2_with fail
  refine (index_any A n k xs x _ HN.out hx hmax).mono ?_
  rintro e _ ⟨⟨v, rfl, hv⟩, rfl⟩
  have HV := Lib.hid hv
  clear hv
  go_wp2
  go_ret
  exact ⟨ret_bool HV.out, rfl⟩
end Go.Proofs.YtiedaongfjcbhabGreatDoor
