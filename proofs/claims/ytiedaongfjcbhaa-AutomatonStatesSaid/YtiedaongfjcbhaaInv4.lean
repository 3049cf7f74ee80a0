/- A region that draws its order: operations that only make, in whatever order; what comes behind all of them, in the order that is left. -/
import Derived.Test.YtiedaongfjcbhaaInv2
namespace Go.Proofs.Ytiedaongfjcbhaa
open Go.RowKit

def frontL (n N : Nat) : Array Bool := ((List.range n).map fun i => decide (i < N)).toArray
theorem frontL_eq {n N : Nat} {listed : Array Bool} (hsz : listed.size = n) (h1 : ∀ i, i < N → listed.getD i false = true) (h2 : ∀ i, N ≤ i → listed.getD i false = false) : listed = frontL n N := by
  apply Array.ext
  · simp [frontL, hsz]
  · intro i hi1 hi2
    have hg : listed.getD i false = listed[i] := by simp [hi1]
    have : (frontL n N)[i] = decide (i < N) := by simp [frontL]
    rw [this, ← hg]
    by_cases h : i < N
    · rw [h1 i h]; simp [h]
    · rw [h2 i (by omega)]; simp [h]
theorem frontL_count {n N : Nat} (_h : N ≤ n) : (frontL n N).toList.count false = n - N := by
  unfold frontL
  have key : ∀ k, k ≤ n → (((List.range k).map fun i => decide (i < N))).count false = k - N := by
    intro k
    induction k with
    | zero => intro _; simp
    | succ k ih =>
      intro hk
      rw [List.range_succ, List.map_append, List.count_append, ih (by omega)]
      by_cases hkN : k < N
      · simp [hkN]; omega
      · simp [hkN]; omega
  simpa using key n (Nat.le_refl _)
theorem wpAny_one {P : Program} {md : Region.Mode} {ops : Array Oper} {Q : Exit → Act → World → Prop} {fuel i : Nat} {listed : Array Bool} {a : Act} {w : World} (hr : Region.ready md ops listed = [i])
    (h : wpOp P ops Q i (fun a' w' => wpAny P md ops Q fuel (listed.setIfInBounds i true) a' w') a w) : wpAny P md ops Q (fuel + 1) listed a w := by
  refine ⟨fun h0 => ?_, fun j hj => ?_⟩
  · rw [hr] at h0; cases h0
  · rw [hr, List.mem_singleton] at hj
    subst hj; exact h
theorem wp_region_head {P : Program} {id : Nat} {ops : Array Oper} {Q : Exit → Act → World → Prop} {d : List Deferred} {w0 : World} (N k : Nat) (hm : P.follows .mixedOrders = true)
    (slots : (Nat → Value) → List Value) (S : (Nat → Value) → World → Prop) (φ : Nat → Value → World → Prop) (y0 : Nat → Value)
    (hsz : ops.size = N + (k + 1))
    (hac : (List.range ops.size).all (fun i => (depsOf ops i).all (· < i)) = true)
    (hcov : (List.range N).all (fun i => (List.range (N + 1)).any fun k => decide (i < k) && (depsOf ops k).contains i) = true)
    (hlast : (List.range k).all (fun j => (depsOf ops (N + 1 + j)).contains N) = true)
    (hmono : ∀ i v w w', φ i v w → Below w.heap.size w w' → φ i v w')
    (hS : S y0 w0.drew)
    (rs : List Nat) (hrs : List.range N = rs)
    (hop : ∀ i ∈ rs, ∀ (y : Nat → Value) (w : World) (K : Act → World → Prop), S y w → (∀ j, (depsOf ops i).contains j = true → φ j (y j) w) →
      (∀ v w', S (upd y i v) w' → φ i v w' → Below w.heap.size w w' → K ⟨(slots (upd y i v)).toArray, d⟩ w') → wpOp P ops Q i K ⟨(slots y).toArray, d⟩ w)
    (hend : ∀ (y : Nat → Value) (w : World) (f : Nat), S y w → (∀ i, i < N → φ i (y i) w) → wpAny P .any ops Q (f + (k + 1)) (frontL (N + (k + 1)) N) ⟨(slots y).toArray, d⟩ w) :
    (Code.region id ops true).wp P Q ⟨(slots y0).toArray, d⟩ w0 := by
  have hlt : ∀ i, i < ops.size → ∀ j, (depsOf ops i).contains j = true → j < i := by
    intro i hi j hj
    have h1 := List.all_eq_true.1 hac i (List.mem_range.2 hi)
    simpa using List.all_eq_true.1 h1 j (by simpa using hj)
  have hacE : ∀ (i : Nat) (o : Oper), ops[i]? = some o → ∀ e ∈ o.after, Region.binds .any e = true → e.on < i := by
    intro i o ho e he hb
    exact hlt i (Array.getElem?_eq_some_iff.1 ho).1 _ (mem_deps ho he hb)
  refine wp_region_any hm ?_
  have main : ∀ (fuel : Nat) (listed : Array Bool) (a : Act) (w : World), listed.size = ops.size → (∀ i, N ≤ i → listed.getD i false = false) → ClosedB ops (fun j => listed.getD j false) →
      (∃ y, a = ⟨(slots y).toArray, d⟩ ∧ S y w ∧ ∀ i, i < N → listed.getD i false = true → φ i (y i) w) → listed.toList.count false ≤ fuel → wpAny P .any ops Q fuel listed a w := by
    intro fuel
    induction fuel with
    | zero =>
      intro listed a w hs hN hcl _ hcnt
      exfalso
      have h0 := hN N (Nat.le_refl _)
      have hNlt : N < listed.size := by omega
      have hpos : 0 < listed.toList.count false := by
        rw [List.count_pos_iff]
        have : listed.toList[N]'(by simpa using hNlt) = false := by simpa [hNlt] using h0
        rw [← this]; exact List.getElem_mem _
      omega
    | succ fuel ih =>
      intro listed a w hs hN hcl hy hcnt
      by_cases hall : ∀ i, i < N → listed.getD i false = true
      · obtain ⟨y, rfl, hSw, hφ⟩ := hy
        have hl := frontL_eq hs hall hN
        have hc2 := frontL_count (n := N + (k + 1)) (N := N) (by omega)
        rw [hsz] at hl
        rw [hl, hc2] at hcnt
        rw [hl]
        have hf : fuel + 1 = (fuel - k) + (k + 1) := by omega
        rw [hf]
        exact hend y w _ hSw (fun i hi => hφ i hi (hall i hi))
      · refine ⟨fun hr => absurd (fun i hi => ready_nil hacE hs hr i (by omega)) hall, fun i hi => ?_⟩
        obtain ⟨h0, o, ho, hd⟩ := mem_ready.1 hi
        have hisz : i < ops.size := (Array.getElem?_eq_some_iff.1 ho).1
        have hbi : listed.getD i false = false := by simpa [show i < listed.size by omega] using h0
        have hd' : ∀ o', ops[i]? = some o' → ∀ e ∈ o'.after, Region.binds .any e = true → listed.getD e.on false = true := fun o' ho' e he hb => by rw [ho] at ho'; cases ho'; exact hd e he hb
        have hiN : i < N := by
          rcases Nat.lt_or_ge i N with g | g
          · exact g
          · exfalso
            by_cases hie : i = N
            · subst hie
              exact hall (covered (by omega) hcov hcl (fun j hj => of_deps (b := fun j => listed.getD j false) hisz hd' hj))
            · have hc := List.all_eq_true.1 hlast (i - (N + 1)) (List.mem_range.2 (by omega))
              rw [show N + 1 + (i - (N + 1)) = i by omega] at hc
              have := of_deps (b := fun j => listed.getD j false) hisz hd' hc
              have h2 := hN N (Nat.le_refl _)
              rw [h2] at this; cases this
        obtain ⟨y, rfl, hSw, hφ⟩ := hy
        have hcs := count_set_lt (listed := listed) (i := i) (by omega) h0
        have e : ∀ j, (listed.setIfInBounds i true).getD j false = if j = i then true else listed.getD j false := by
          intro j
          by_cases hj : j = i
          · subst hj; simp [show j < listed.size by omega]
          · rw [getD_set_ne false (Ne.symm hj), if_neg hj]
        have hcl' : ClosedB ops (fun j => (listed.setIfInBounds i true).getD j false) := by
          intro q hq hbq j hj
          simp only [e] at hbq ⊢
          by_cases hji : j = i
          · simp [hji]
          · rw [if_neg hji]
            by_cases hqi : q = i
            · subst hqi; exact of_deps (b := fun j => listed.getD j false) hisz hd' hj
            · rw [if_neg hqi] at hbq; exact hcl q hq hbq j hj
        refine hop i (by rw [← hrs]; exact List.mem_range.2 hiN) y w _ hSw (fun j hj => hφ j (by have := hlt i hisz j hj; omega) (of_deps (b := fun j => listed.getD j false) hisz hd' hj)) (fun v w' hS' hv hb' => ?_)
        refine ih _ _ _ (by simpa using hs) (fun j hj => by rw [e, if_neg (by omega)]; exact hN j hj) hcl' ⟨upd y i v, rfl, hS', fun j hjN hj => ?_⟩ (by omega)
        by_cases hji : j = i
        · subst hji
          have : upd y j v j = v := by simp [upd]
          rw [this]; exact hv
        · have : upd y i v j = y j := by simp [upd, hji]
          rw [this]
          rw [e, if_neg hji] at hj
          exact hmono j _ w w' (hφ j hjN hj) hb'
  have hg0 : ∀ i, (Array.replicate ops.size false).getD i false = false := by
    intro i
    by_cases h : i < ops.size <;> simp [h]
  exact main _ _ _ _ (by simp) (fun i _ => hg0 i) (fun i _ hb => by simp only [hg0] at hb; cases hb) ⟨y0, rfl, hS, fun i _ hb => by rw [hg0] at hb; cases hb⟩ (by simp)
end Go.Proofs.Ytiedaongfjcbhaa
