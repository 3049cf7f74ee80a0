/- A region that draws its order: operations that only make, then two more, one behind the other. -/
import Derived.Test.YtiedaongfjcbhaaInv2
namespace Go.Proofs.Ytiedaongfjcbhaa
open Go.RowKit

theorem wp_region_two {P : Program} {id : Nat} {ops : Array Oper} {Q : Exit → Act → World → Prop} {d : List Deferred} {w0 : World} (N : Nat) (hm : P.follows .mixedOrders = true)
    (slots slots1 slots2 : (Nat → Value) → List Value) (S : (Nat → Value) → World → Prop) (φ : Nat → Value → World → Prop) (T1 T2 : (Nat → Value) → World → Prop) (y0 : Nat → Value)
    (hsz : ops.size = N + 2)
    (hac : (List.range ops.size).all (fun i => (depsOf ops i).all (· < i)) = true)
    (hcov : (List.range N).all (fun i => (List.range (N + 1)).any fun k => decide (i < k) && (depsOf ops k).contains i) = true)
    (hlast : (depsOf ops (N + 1)).contains N = true)
    (hmono : ∀ i v w w', φ i v w → Below w.heap.size w w' → φ i v w')
    (hS : S y0 w0.drew)
    (rs : List Nat) (hrs : List.range N = rs)
    (hop : ∀ i ∈ rs, ∀ (y : Nat → Value) (w : World) (K : Act → World → Prop), S y w → (∀ j, (depsOf ops i).contains j = true → φ j (y j) w) →
      (∀ v w', S (upd y i v) w' → φ i v w' → Below w.heap.size w w' → K ⟨(slots (upd y i v)).toArray, d⟩ w') → wpOp P ops Q i K ⟨(slots y).toArray, d⟩ w)
    (happ : ∀ (y : Nat → Value) (w : World) (K : Act → World → Prop), S y w → (∀ i, i < N → φ i (y i) w) →
      (∀ y' w', T1 y' w' → K ⟨(slots1 y').toArray, d⟩ w') → wpOp P ops Q N K ⟨(slots y).toArray, d⟩ w)
    (hlst : ∀ (y : Nat → Value) (w : World) (K : Act → World → Prop), T1 y w → (∀ y' w', T2 y' w' → K ⟨(slots2 y').toArray, d⟩ w') → wpOp P ops Q (N + 1) K ⟨(slots1 y).toArray, d⟩ w)
    (hend : ∀ (y : Nat → Value) (w : World), T2 y w → Q .normal ⟨(slots2 y).toArray, d⟩ w) :
    (Code.region id ops true).wp P Q ⟨(slots y0).toArray, d⟩ w0 := by
  have hlt : ∀ i, i < ops.size → ∀ j, (depsOf ops i).contains j = true → j < i := by
    intro i hi j hj
    have h1 := List.all_eq_true.1 hac i (List.mem_range.2 hi)
    simpa using List.all_eq_true.1 h1 j (by simpa using hj)
  refine wp_region_any hm ?_
  refine wpAny_inv (fun b a w => ClosedB ops b ∧ ∃ y, (b N = false ∧ b (N + 1) = false ∧ a = ⟨(slots y).toArray, d⟩ ∧ S y w ∧ ∀ i, i < N → b i = true → φ i (y i) w) ∨ (b N = true ∧ (∀ i, i < N → b i = true) ∧ ((b (N + 1) = false ∧ T1 y w ∧ a = ⟨(slots1 y).toArray, d⟩) ∨ (b (N + 1) = true ∧ T2 y w ∧ a = ⟨(slots2 y).toArray, d⟩)))) ?_ ?_ ?_ _ _ _ _ (by simp) ⟨?_, y0, .inl ⟨by simp [hsz], by simp [hsz], rfl, hS, ?_⟩⟩ (by simp)
  · intro i o ho e he hb
    exact hlt i (Array.getElem?_eq_some_iff.1 ho).1 _ (mem_deps ho he hb)
  · rintro b a w i ⟨hcl, y, h⟩ hi hbi hd
    have hcl' : ClosedB ops (fun j => if j = i then true else b j) := by
      intro k hk hbk j hj
      by_cases hji : j = i
      · simp [hji]
      · simp only [hji, if_false]
        by_cases hki : k = i
        · subst hki; exact of_deps hi hd hj
        · simp only [hki, if_false] at hbk; exact hcl k hk hbk j hj
    rcases h with ⟨hN, hN1, rfl, hSw, hφ⟩ | ⟨hN, hall, h⟩
    · by_cases hiN : i < N
      · refine hop i (by rw [← hrs]; exact List.mem_range.2 hiN) y w _ hSw (fun j hj => hφ j (by have := hlt i hi j hj; omega) (of_deps hi hd hj)) (fun v w' hS' hv hb' => ⟨hcl', upd y i v, .inl ⟨?_, ?_, rfl, hS', fun j hjN hj => ?_⟩⟩)
        · simp [show ¬ N = i by omega, hN]
        · simp [show ¬ N + 1 = i by omega, hN1]
        · by_cases hji : j = i
          · subst hji
            have : upd y j v j = v := by simp [upd]
            rw [this]; exact hv
          · have : upd y i v j = y j := by simp [upd, hji]
            rw [this]
            exact hmono j _ w w' (hφ j hjN (by simpa [hji] using hj)) hb'
      · by_cases hie : i = N
        · subst hie
          have hall : ∀ j, j < i → b j = true := covered (by omega) hcov hcl (fun j hj => of_deps hi hd hj)
          exact happ y w _ hSw (fun j hj => hφ j hj (hall j hj)) (fun y' w' hT => ⟨hcl', y', .inr ⟨by simp, fun j hj => by simp [show ¬ j = i by omega, hall j hj], .inl ⟨by simp [hN1], hT, rfl⟩⟩⟩)
        · obtain rfl : i = N + 1 := by omega
          have := of_deps hi hd hlast
          rw [hN] at this; cases this
    · by_cases hie : i = N + 1
      · subst hie
        rcases h with ⟨_, hT, rfl⟩ | ⟨h1, _⟩
        · exact hlst y w _ hT (fun y' w' hT2 => ⟨hcl', y', .inr ⟨by simp [hN], fun j hj => by simp [show ¬ j = N + 1 by omega, hall j hj], .inr ⟨by simp, hT2, rfl⟩⟩⟩)
        · rw [hbi] at h1; cases h1
      · exfalso
        rcases Nat.lt_or_ge i N with g | g
        · rw [hall i g] at hbi; cases hbi
        · obtain rfl : i = N := by omega
          rw [hN] at hbi; cases hbi
  · rintro b a w ⟨_, y, h⟩ hall
    rcases h with ⟨hN, _⟩ | ⟨_, _, ⟨hN1, _⟩ | ⟨_, hT, rfl⟩⟩
    · rw [hall N (by omega)] at hN; cases hN
    · rw [hall (N + 1) (by omega)] at hN1; cases hN1
    · exact hend y w hT
  · intro i hi hbi
    simp [hi] at hbi
  · intro i hi hbi
    by_cases h : i < ops.size
    · simp [h] at hbi
    · simp [h] at hbi
end Go.Proofs.Ytiedaongfjcbhaa
