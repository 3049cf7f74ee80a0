/- A region that draws its order: operations that only make, then an append onto a row of the call's own, then the assignment. -/
import Derived.Test.YtiedaongfjcbhaaInv
namespace Go.Proofs.Ytiedaongfjcbhaa
open Go.RowKit

/-- What is done is closed under what it waits for. -/
def ClosedB (ops : Array Oper) (b : Nat → Bool) : Prop := ∀ i, i < ops.size → b i = true → ∀ j, (depsOf ops i).contains j = true → b j = true
theorem covered {ops : Array Oper} {N : Nat} {b : Nat → Bool} (hN : N < ops.size)
    (hcov : (List.range N).all (fun i => (List.range (N + 1)).any fun k => decide (i < k) && (depsOf ops k).contains i) = true)
    (hc : ClosedB ops b) (hb : ∀ j, (depsOf ops N).contains j = true → b j = true) : ∀ i, i < N → b i = true := by
  have key : ∀ n i, i < N → N ≤ i + n → b i = true := by
    intro n
    induction n with
    | zero => intro i h1 h2; omega
    | succ n ih =>
      intro i h1 h2
      have h := List.all_eq_true.1 hcov i (List.mem_range.2 h1)
      obtain ⟨k, hk, hd⟩ := List.any_eq_true.1 h
      simp only [Bool.and_eq_true, decide_eq_true_eq] at hd
      have hk' := List.mem_range.1 hk
      by_cases hkN : k = N
      · subst hkN; exact hb i hd.2
      · exact hc k (by omega) (ih k (by omega) (by omega)) i hd.2
  intro i hi
  exact key N i hi (by omega)
theorem mem_deps {ops : Array Oper} {i : Nat} {o : Oper} (ho : ops[i]? = some o) {e : Edge} (he : e ∈ o.after) (hb : Region.binds .any e = true) : (depsOf ops i).contains e.on = true := by
  unfold depsOf
  rw [ho]
  simp only [Option.map_some, Option.getD_some, List.contains_iff_mem, List.mem_map, List.mem_filter]
  exact ⟨e, ⟨by simpa using he, hb⟩, rfl⟩
theorem of_deps {ops : Array Oper} {i j : Nat} (hi : i < ops.size) {b : Nat → Bool} (hd : ∀ o, ops[i]? = some o → ∀ e ∈ o.after, Region.binds .any e = true → b e.on = true) (hj : (depsOf ops i).contains j = true) : b j = true := by
  have ho : ops[i]? = some ops[i] := by simp [hi]
  unfold depsOf at hj
  rw [ho] at hj
  simp only [Option.map_some, Option.getD_some, List.contains_iff_mem, List.mem_map, List.mem_filter] at hj
  obtain ⟨e, ⟨he, hb⟩, rfl⟩ := hj
  exact hd _ ho e (by simpa using he) hb

theorem wp_region_app {P : Program} {id : Nat} {ops : Array Oper} {Q : Exit → Act → World → Prop} {d : List Deferred} {w0 : World} (N : Nat) (hm : P.follows .mixedOrders = true)
    (slots : (Nat → Value) → Value → List Value) (l0 : Value) (S : World → Prop) (φ : Nat → Value → World → Prop) (T : Value → World → Prop) (y0 : Nat → Value)
    (hsz : ops.size = N + 2)
    (hac : (List.range ops.size).all (fun i => (depsOf ops i).all (· < i)) = true)
    (hcov : (List.range N).all (fun i => (List.range (N + 1)).any fun k => decide (i < k) && (depsOf ops k).contains i) = true)
    (hlast : (depsOf ops (N + 1)).contains N = true)
    (hmono : ∀ i v w w', φ i v w → Below w.heap.size w w' → φ i v w')
    (hS : S w0.drew)
    (rs : List Nat) (hrs : List.range N = rs)
    (hop : ∀ i ∈ rs, ∀ (y : Nat → Value) (w : World) (K : Act → World → Prop), S w → (∀ j, (depsOf ops i).contains j = true → φ j (y j) w) →
      (∀ v w', S w' → φ i v w' → Below w.heap.size w w' → K ⟨(slots (upd y i v) l0).toArray, d⟩ w') → wpOp P ops Q i K ⟨(slots y l0).toArray, d⟩ w)
    (happ : ∀ (y : Nat → Value) (w : World) (K : Act → World → Prop), S w → (∀ i, i < N → φ i (y i) w) →
      (∀ v w', T v w' → K ⟨(slots (upd y N v) l0).toArray, d⟩ w') → wpOp P ops Q N K ⟨(slots y l0).toArray, d⟩ w)
    (hasg : ∀ (y : Nat → Value) (w : World) (K : Act → World → Prop), K ⟨(slots y (y N)).toArray, d⟩ w → wpOp P ops Q (N + 1) K ⟨(slots y l0).toArray, d⟩ w)
    (hend : ∀ (y : Nat → Value) (w : World), T (y N) w → Q .normal ⟨(slots y (y N)).toArray, d⟩ w) :
    (Code.region id ops true).wp P Q ⟨(slots y0 l0).toArray, d⟩ w0 := by
  have hlt : ∀ i, i < ops.size → ∀ j, (depsOf ops i).contains j = true → j < i := by
    intro i hi j hj
    have h1 := List.all_eq_true.1 hac i (List.mem_range.2 hi)
    simpa using List.all_eq_true.1 h1 j (by simpa using hj)
  refine wp_region_any hm ?_
  refine wpAny_inv (fun b a w => ClosedB ops b ∧ ∃ y, (b N = false ∧ b (N + 1) = false ∧ a = ⟨(slots y l0).toArray, d⟩ ∧ S w ∧ ∀ i, i < N → b i = true → φ i (y i) w) ∨ (b N = true ∧ (∀ i, i < N → b i = true) ∧ T (y N) w ∧ a = ⟨(slots y (if b (N + 1) then y N else l0)).toArray, d⟩)) ?_ ?_ ?_ _ _ _ _ (by simp) ⟨?_, y0, .inl ⟨by simp [hsz], by simp [hsz], rfl, hS, ?_⟩⟩ (by simp)
  · intro i o ho e he hb
    exact hlt i (Array.getElem?_eq_some_iff.1 ho).1 _ (mem_deps ho he hb)
  · rintro b a w i ⟨hcl, y, h⟩ hi hbi hd
    have hcl' : ClosedB ops (fun j => if j = i then true else b j) := by
      intro k hk hbk j hj
      by_cases hji : j = i
      · simp [hji]
      · simp only [hji, if_false]
        by_cases hki : k = i
        · subst hki; exact of_deps hi hd hj
        · simp only [hki, if_false] at hbk; exact hcl k hk hbk j hj
    rcases h with ⟨hN, hN1, rfl, hSw, hφ⟩ | ⟨hN, hall, hT, rfl⟩
    · by_cases hiN : i < N
      · refine hop i (by rw [← hrs]; exact List.mem_range.2 hiN) y w _ hSw (fun j hj => hφ j (by have := hlt i hi j hj; omega) (of_deps hi hd hj)) (fun v w' hS' hv hb' => ⟨hcl', upd y i v, .inl ⟨?_, ?_, rfl, hS', fun j hjN hj => ?_⟩⟩)
        · simp [show ¬ N = i by omega, hN]
        · simp [show ¬ N + 1 = i by omega, hN1]
        · by_cases hji : j = i
          · subst hji
            have : upd y j v j = v := by simp [upd]
            rw [this]; exact hv
          · have : upd y i v j = y j := by simp [upd, hji]
            rw [this]
            exact hmono j _ w w' (hφ j hjN (by simpa [hji] using hj)) hb'
      · by_cases hie : i = N
        · subst hie
          have hall : ∀ j, j < i → b j = true := covered (by omega) hcov hcl (fun j hj => of_deps hi hd hj)
          refine happ y w _ hSw (fun j hj => hφ j hj (hall j hj)) (fun v w' hT => ⟨hcl', upd y i v, .inr ⟨by simp, fun j hj => by simp [show ¬ j = i by omega, hall j hj], ?_, ?_⟩⟩)
          · have : upd y i v i = v := by simp [upd]
            rw [this]; exact hT
          · simp [hN1]
        · obtain rfl : i = N + 1 := by omega
          have := of_deps hi hd hlast
          rw [hN] at this; cases this
    · by_cases hie : i = N + 1
      · subst hie
        rw [hbi]
        refine hasg y w _ ⟨hcl', y, .inr ⟨by simp [hN], fun j hj => by simp [show ¬ j = N + 1 by omega, hall j hj], hT, by simp⟩⟩
      · exfalso
        rcases Nat.lt_or_ge i N with g | g
        · rw [hall i g] at hbi; cases hbi
        · obtain rfl : i = N := by omega
          rw [hN] at hbi; cases hbi
  · rintro b a w ⟨_, y, h⟩ hall
    rcases h with ⟨hN, _⟩ | ⟨_, _, hT, rfl⟩
    · rw [hall N (by omega)] at hN; cases hN
    · rw [hall (N + 1) (by omega), if_pos rfl]
      exact hend y w hT
  · intro i hi hbi
    simp [hi] at hbi
  · intro i hi hbi
    by_cases h : i < ops.size
    · simp [h] at hbi
    · simp [h] at hbi
end Go.Proofs.Ytiedaongfjcbhaa
