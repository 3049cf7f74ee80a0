/- A region that draws its order, by one invariant: each operation once. -/
import Derived.Test.YtiedaongfjcbhaaBase
import Derived.RegionTactic
namespace Go.Proofs.Ytiedaongfjcbhaa
open Go.RowKit

theorem ready_nil {md : Region.Mode} {ops : Array Oper} (hac : ∀ (i : Nat) (o : Oper), ops[i]? = some o → ∀ e ∈ o.after, Region.binds md e = true → e.on < i)
    {listed : Array Bool} (hsz : listed.size = ops.size) (h : Region.ready md ops listed = []) : ∀ i, i < ops.size → listed.getD i false = true := by
  intro i
  induction i using Nat.strongRecOn with
  | ind i ih =>
    intro hi
    cases hb : listed.getD i false with
    | true => rfl
    | false =>
      have : i ∈ Region.ready md ops listed := by
        rw [mem_ready]
        refine ⟨?_, ops[i], by simp [hi], fun e he hb => ?_⟩
        · have : i < listed.size := by omega
          simpa [this] using hb
        · exact ih e.on (hac i _ (by simp [hi]) e he hb) (by have := hac i _ (by simp [hi]) e he hb; omega)
      rw [h] at this
      cases this
theorem count_set_lt {listed : Array Bool} {i : Nat} (hi : i < listed.size) (hb : listed.getD i true = false) :
    (listed.setIfInBounds i true).toList.count false + 1 = listed.toList.count false := by
  have h1 : listed.toList[i]'(by simpa using hi) = false := by simpa [hi] using hb
  have hpos : 0 < listed.toList.count false := by
    rw [List.count_pos_iff, ← h1]
    exact List.getElem_mem _
  rw [Array.toList_setIfInBounds, List.count_set (by simpa using hi), h1]
  show List.count false listed.toList - 1 + 0 + 1 = _
  omega
theorem wpAny_inv {P : Program} {md : Region.Mode} {ops : Array Oper} {Q : Exit → Act → World → Prop} (I : (Nat → Bool) → Act → World → Prop)
    (hac : ∀ (i : Nat) (o : Oper), ops[i]? = some o → ∀ e ∈ o.after, Region.binds md e = true → e.on < i)
    (hstep : ∀ (b : Nat → Bool) (a : Act) (w : World) (i : Nat), I b a w → i < ops.size → b i = false → (∀ o, ops[i]? = some o → ∀ e ∈ o.after, Region.binds md e = true → b e.on = true) → wpOp P ops Q i (I (fun j => if j = i then true else b j)) a w)
    (hdone : ∀ (b : Nat → Bool) (a : Act) (w : World), I b a w → (∀ i, i < ops.size → b i = true) → Q .normal a w) :
    ∀ (fuel : Nat) (listed : Array Bool) (a : Act) (w : World), listed.size = ops.size → I (fun j => listed.getD j false) a w → listed.toList.count false ≤ fuel → wpAny P md ops Q fuel listed a w := by
  intro fuel
  induction fuel with
  | zero =>
    intro listed a w hsz hI hc
    have hr : Region.ready md ops listed = [] := by
      rw [List.eq_nil_iff_forall_not_mem]
      intro i hi
      have h0 := (mem_ready.1 hi).1
      have hlt : i < listed.size := by
        rcases Nat.lt_or_ge i listed.size with h | h
        · exact h
        · simp [Array.getElem?_eq_none h] at h0
      have := count_set_lt hlt h0
      omega
    exact ⟨hr, hdone _ _ _ hI (ready_nil hac hsz hr)⟩
  | succ fuel ih =>
    intro listed a w hsz hI hc
    refine ⟨fun hr => hdone _ _ _ hI (ready_nil hac hsz hr), fun i hi => ?_⟩
    obtain ⟨h0, o, ho, hall⟩ := mem_ready.1 hi
    have hlt : i < listed.size := by
      rcases Nat.lt_or_ge i listed.size with h | h
      · exact h
      · simp [Array.getElem?_eq_none h] at h0
    have hcs := count_set_lt hlt h0
    refine wpOp_mono (fun a' w' h => ih _ a' w' (by simpa using hsz) ?_ (by omega)) (hstep _ a w i hI (by omega) (by simpa [hlt] using h0) (fun o' ho' e he hb => by rw [ho] at ho'; cases ho'; exact hall e he hb))
    have e : (fun j => (listed.setIfInBounds i true).getD j false) = fun j => if j = i then true else listed.getD j false := by
      funext j
      by_cases hj : j = i
      · subst hj; simp [hlt]
      · rw [getD_set_ne false (Ne.symm hj), if_neg hj]
    rw [e]
    exact h

def upd (y : Nat → Value) (i : Nat) (v : Value) : Nat → Value := fun j => if j = i then v else y j
theorem upd_at {y : Nat → Value} {i : Nat} {v : Value} (h : y i = v) : ∃ y1, y = upd y1 i v := ⟨y, by
  funext j
  by_cases hj : j = i
  · subst hj; simp [upd, h]
  · simp [upd, hj]⟩
def depsOf (ops : Array Oper) (i : Nat) : List Nat := ((ops[i]?).map fun o => (o.after.toList.filter (Region.binds .any)).map (·.on)).getD []
theorem allCons {p : Nat → Prop} {i : Nat} {l : List Nat} (h : p i) (hl : ∀ j ∈ l, p j) : ∀ j ∈ i :: l, p j := fun j hj => by
  rcases List.mem_cons.1 hj with rfl | hj
  · exact h
  · exact hl j hj
theorem allNil {p : Nat → Prop} : ∀ j ∈ ([] : List Nat), p j := fun _ h => by cases h
/-- A region that only makes: each operation once, whatever the others did; S holds throughout, φ i speaks of what the operation i yields. -/
theorem wp_region_inv {P : Program} {id : Nat} {ops : Array Oper} {Q : Exit → Act → World → Prop} {d : List Deferred} {w0 : World} (hm : P.follows .mixedOrders = true)
    (slots : (Nat → Value) → List Value) (S : World → Prop) (φ : Nat → Value → World → Prop) (y0 : Nat → Value)
    (hac : (List.range ops.size).all (fun i => (depsOf ops i).all (· < i)) = true)
    (hmono : ∀ i v w w', φ i v w → Below w.heap.size w w' → φ i v w')
    (hS : S w0.drew)
    (rs : List Nat) (hrs : List.range ops.size = rs)
    (hop : ∀ i ∈ rs, ∀ (y : Nat → Value) (w : World) (K : Act → World → Prop), S w → (∀ j, (depsOf ops i).contains j = true → φ j (y j) w) →
      (∀ v w', S w' → φ i v w' → Below w.heap.size w w' → K ⟨(slots (upd y i v)).toArray, d⟩ w') → wpOp P ops Q i K ⟨(slots y).toArray, d⟩ w)
    (hend : ∀ (y : Nat → Value) (w : World), S w → (∀ i, i < ops.size → φ i (y i) w) → Q .normal ⟨(slots y).toArray, d⟩ w) :
    (Code.region id ops true).wp P Q ⟨(slots y0).toArray, d⟩ w0 := by
  have hdep : ∀ (i : Nat) (o : Oper), ops[i]? = some o → ∀ e ∈ o.after, Region.binds .any e = true → e.on ∈ depsOf ops i := by
    intro i o ho e he hb
    unfold depsOf
    rw [ho]
    simp only [Option.map_some, Option.getD_some, List.mem_map, List.mem_filter]
    exact ⟨e, ⟨by simpa using he, hb⟩, rfl⟩
  refine wp_region_any hm ?_
  refine wpAny_inv (fun b a w => ∃ y, a = ⟨(slots y).toArray, d⟩ ∧ S w ∧ ∀ i, b i = true → φ i (y i) w) ?_ ?_ ?_ _ _ _ _ (by simp) ⟨y0, rfl, hS, ?_⟩ (by simp)
  · intro i o ho e he hb
    have hi : i < ops.size := (Array.getElem?_eq_some_iff.1 ho).1
    have h1 := List.all_eq_true.1 hac i (List.mem_range.2 hi)
    have h2 := List.all_eq_true.1 h1 e.on (hdep i o ho e he hb)
    simpa using h2
  · rintro b a w i ⟨y, rfl, hSw, hφ⟩ hi hbi hd
    refine hop i (by rw [← hrs]; exact List.mem_range.2 hi) y w _ hSw (fun j hj => hφ j ?_) (fun v w' hS' hv hb' => ⟨upd y i v, rfl, hS', fun j hj => ?_⟩)
    · have ho : ops[i]? = some ops[i] := by simp [hi]
      unfold depsOf at hj
      rw [ho] at hj
      simp only [Option.map_some, Option.getD_some, List.contains_iff_mem, List.mem_map, List.mem_filter] at hj
      obtain ⟨e, ⟨he, hb⟩, rfl⟩ := hj
      exact hd _ ho e (by simpa using he) hb
    · by_cases hji : j = i
      · subst hji
        have : upd y j v j = v := by simp [upd]
        rw [this]; exact hv
      · have : upd y i v j = y j := by simp [upd, hji]
        rw [this]
        exact hmono j _ w w' (hφ j (by simpa [hji] using hj)) hb'
  · rintro b a w ⟨y, rfl, hSw, hφ⟩ hall
    exact hend y w hSw (fun i hi => hφ i (hall i hi))
  · intro i hi
    by_cases h : i < ops.size
    · simp [h] at hi
    · simp [h] at hi
end Go.Proofs.Ytiedaongfjcbhaa
