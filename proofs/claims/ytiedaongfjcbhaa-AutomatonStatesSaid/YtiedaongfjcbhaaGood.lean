/- Valid tables, purely: what Check says of a valid table in which a rule is replaced. -/
import Derived.Test.YtiedaongfjcbhaaTab11
namespace Go.Proofs.Ytiedaongfjcbhaa
open Go.RowKit

def GoodL (m a : Int) (rs : List Rule) : Prop := numsB m a rs.length = true ∧ (∀ i j (h1 : i < rs.length) (h2 : j < rs.length), i < j → rs[i] ≠ rs[j]) ∧ ∀ x ∈ rs, soundB x m = true
theorem memB_take {rs : List Rule} {y : Rule} {j : Nat} : memB y (rs.take j) = true ↔ ∃ i, ∃ h : i < rs.length, i < j ∧ rs[i] = y := by
  unfold memB
  simp only [decide_eq_true_eq]
  constructor
  · intro h
    obtain ⟨i, hi, e⟩ := List.getElem_of_mem h
    simp only [List.length_take] at hi
    exact ⟨i, by omega, by omega, by rw [← e, List.getElem_take]⟩
  · rintro ⟨i, h, hij, e⟩
    refine List.mem_of_getElem? (i := i) ?_
    rw [List.getElem?_take_of_lt hij, List.getElem?_eq_getElem h, e]
theorem memB_before_no {rs : List Rule} {y : Rule} {j : Nat} (h : ∀ i (hl : i < rs.length), i < j → rs[i] ≠ y) : memB y (rs.take j) = false := by
  cases hb : memB y (rs.take j) with
  | false => rfl
  | true =>
    obtain ⟨i, hl, hij, e⟩ := memB_take.1 hb
    exact absurd e (h i hl hij)
theorem badAt_fine {m : Int} {rs : List Rule} {j : Nat} (hj : j < rs.length) (hs : soundB rs[j] m = true) (hn : ∀ i (hl : i < rs.length), i < j → rs[i] ≠ rs[j]) : badAt m rs j = false := by
  rw [badAt_at (List.getElem?_eq_getElem hj), hs, memB_before_no hn]; rfl
theorem badAt_unsound {m : Int} {rs : List Rule} {j : Nat} (hj : j < rs.length) (hs : soundB rs[j] m = false) : badAt m rs j = true := by
  rw [badAt_at (List.getElem?_eq_getElem hj), hs]; rfl
theorem badAt_twice {m : Int} {rs : List Rule} {i j : Nat} (hj : j < rs.length) (hi : i < rs.length) (hij : i < j) (e : rs[i] = rs[j]) : badAt m rs j = true := by
  rw [badAt_at (List.getElem?_eq_getElem hj), memB_take.2 ⟨i, hi, hij, e⟩]; simp
theorem valid_iff {m a : Int} {rs : List Rule} : validB m a rs = true ↔ GoodL m a rs := by
  unfold validB
  rw [chkE_ok]
  constructor
  · intro h
    rw [Bool.and_eq_true] at h
    obtain ⟨hn, hf⟩ := h
    unfold firstB at hf
    rw [Option.isNone_iff_eq_none, List.find?_eq_none] at hf
    have key : ∀ j (hj : j < rs.length), soundB rs[j] m = true ∧ ∀ i (hl : i < rs.length), i < j → rs[i] ≠ rs[j] := by
      intro j hj
      have hb := hf j (List.mem_range.2 hj)
      rw [badAt_at (List.getElem?_eq_getElem hj)] at hb
      simp only [Bool.or_eq_true, not_or, Bool.not_eq_true', Bool.not_eq_false, Bool.not_eq_true] at hb
      refine ⟨hb.1, fun i hl hij e => ?_⟩
      rw [memB_take.2 ⟨i, hl, hij, e⟩] at hb
      exact absurd hb.2 (by decide)
    refine ⟨hn, fun i j h1 h2 hij => (key j h2).2 i h1 hij, fun x hx => ?_⟩
    obtain ⟨j, hj, rfl⟩ := List.getElem_of_mem hx
    exact (key j hj).1
  · rintro ⟨hn, hd, hs⟩
    rw [hn]
    rw [firstB_no fun j hj => badAt_fine hj (hs _ (List.getElem_mem hj)) fun i hl hij => hd i j hl hj hij]
    rfl
theorem set_at {rs : List Rule} {i : Nat} {y : Rule} (_hi : i < rs.length) : ∀ h : i < (rs.set i y).length, (rs.set i y)[i]'h = y := fun h => by simp
theorem set_ne {rs : List Rule} {i j : Nat} {y : Rule} (_hj : j < rs.length) (hne : i ≠ j) : ∀ h : j < (rs.set i y).length, (rs.set i y)[j]'h = rs[j] := fun h => by simp [hne]
section
variable {m a : Int} {rs : List Rule} {i : Nat} {y : Rule}
theorem nums_set (hG : GoodL m a rs) : numsB m a (rs.set i y).length = true := by rw [List.length_set]; exact hG.1
theorem fine_before (hG : GoodL m a rs) {j : Nat} (hj : j < rs.length) (hji : j < i) : badAt m (rs.set i y) j = false := by
  have hl : j < (rs.set i y).length := by rw [List.length_set]; exact hj
  refine badAt_fine hl ?_ fun q hq hqj => ?_
  · rw [set_ne hj (by omega) hl]; exact hG.2.2 _ (List.getElem_mem hj)
  · rw [List.length_set] at hq
    rw [set_ne hj (by omega) hl, set_ne hq (by omega)]
    exact hG.2.1 q j hq hj hqj
theorem spoil_unsound (hG : GoodL m a rs) (hi : i < rs.length) (hy : soundB y m = false) : chkI m a (rs.set i y) = i ∧ chkE m a (rs.set i y) = 20 := by
  have hl : i < (rs.set i y).length := by rw [List.length_set]; exact hi
  exact chk_bad (nums_set hG) (fun j hj => fine_before hG (by omega) hj) (badAt_unsound hl (by rw [set_at hi hl]; exact hy)) hl
theorem spoil_fine (hG : GoodL m a rs) (hi : i < rs.length) (hy : soundB y m = true) (hd : ∀ k (h : k < rs.length), k ≠ i → rs[k] ≠ y) : chkI m a (rs.set i y) = 0 ∧ chkE m a (rs.set i y) = 0 := by
  refine chk_ok (nums_set hG) fun j hj => ?_
  have hj' : j < rs.length := by rwa [List.length_set] at hj
  by_cases hji : j < i
  · exact fine_before hG hj' hji
  by_cases hje : j = i
  · subst hje
    refine badAt_fine hj ?_ fun q hq hqj => ?_
    · rw [set_at hi hj]; exact hy
    · have hq' : q < rs.length := by rwa [List.length_set] at hq
      rw [set_at hi hj, set_ne hq' (by omega) hq]
      exact hd q hq' (by omega)
  · refine badAt_fine hj ?_ fun q hq hqj => ?_
    · rw [set_ne hj' (by omega) hj]; exact hG.2.2 _ (List.getElem_mem hj')
    · have hq' : q < rs.length := by rwa [List.length_set] at hq
      rw [set_ne hj' (by omega) hj]
      by_cases hqi : q = i
      · subst hqi
        rw [set_at hi hq]
        exact fun e => hd j hj' (by omega) e.symm
      · rw [set_ne hq' (by omega) hq]
        exact hG.2.1 q j hq' hj' hqj
theorem spoil_twice (hG : GoodL m a rs) (hi : i < rs.length) (hy : soundB y m = true) {k : Nat} (hk : k < rs.length) (hki : k ≠ i) (e : rs[k] = y) : chkI m a (rs.set i y) = (max k i : Nat) ∧ chkE m a (rs.set i y) = 20 := by
  have hli : i < (rs.set i y).length := by rw [List.length_set]; exact hi
  have hlk : k < (rs.set i y).length := by rw [List.length_set]; exact hk
  rcases Nat.lt_or_ge k i with g | g
  · rw [Nat.max_eq_right (by omega)]
    refine chk_bad (nums_set hG) (fun j hj => fine_before hG (by omega) hj) (badAt_twice hli hlk g ?_) hli
    rw [set_at hi hli, set_ne hk (by omega) hlk]; exact e
  · rw [Nat.max_eq_left (by omega)]
    refine chk_bad (nums_set hG) (fun j hj => ?_) (badAt_twice hlk hli (by omega) ?_) hlk
    · have hj' : j < rs.length := by omega
      by_cases hji : j < i
      · exact fine_before hG hj' hji
      have hlj : j < (rs.set i y).length := by rw [List.length_set]; exact hj'
      by_cases hje : j = i
      · subst hje
        refine badAt_fine hlj ?_ fun q hq hqj => ?_
        · rw [set_at hi hlj]; exact hy
        · have hq' : q < rs.length := by rwa [List.length_set] at hq
          rw [set_at hi hlj, set_ne hq' (by omega) hq, ← e]
          exact hG.2.1 q k hq' hk (by omega)
      · refine badAt_fine hlj ?_ fun q hq hqj => ?_
        · rw [set_ne hj' (by omega) hlj]; exact hG.2.2 _ (List.getElem_mem hj')
        · have hq' : q < rs.length := by rwa [List.length_set] at hq
          rw [set_ne hj' (by omega) hlj]
          by_cases hqi : q = i
          · subst hqi
            rw [set_at hi hq, ← e]
            exact fun e2 => hG.2.1 j k hj' hk hj e2.symm
          · rw [set_ne hq' (by omega) hq]
            exact hG.2.1 q j hq' hj' hqj
    · rw [set_at hi hli, set_ne hk (by omega) hlk]; exact e.symm
end
end Go.Proofs.Ytiedaongfjcbhaa
