/- Package table: the parts of soundness; rules compared. -/
import Derived.Test.YtiedaongfjcbhaaTab4
namespace Go.Proofs.Ytiedaongfjcbhaa
open Go.RowKit

set_option maxRecDepth 10000 in
set_option maxHeartbeats 400000 in
theorem sameCells_any (A B : Option Addr) (n m k l : Nat) (xs ys : List Int) (w : World) (hn : xs.length = n) (hm : ys.length = m) (hx : Seq w w.heap.size A xs) (hy : Seq w w.heap.size B ys) (hmax : n < 2 ^ 47) :
    Calls Try.prog 35 #[.slice A n k, .slice B m l] w fun e w' => e = .returned (.bool (eqB xs ys)) ∧ Below w.heap.size w w' := by
  by_cases hl : n = m
  · subst hl
    have HM := Lib.hid hm
    have HN := Lib.hid hn
    clear hm hn
    go_enter Try.func35, Try.ntmps35
    go_wp2
    go_loopw [5] (fun i wr => ∃ j : Nat, j ≤ n ∧ i = .int .i64 j ∧ xs.take j = ys.take j ∧ Below w.heap.size w wr) (fun i _ => n - (intOf i).toNat)
    case atStart => exact ⟨0, by omega, rfl, rfl, Below.refl _ _⟩
    case round =>
      obtain ⟨j, hj, rfl, ht, hb⟩ := hrel
      by_cases hlt : j < n
      · obtain ⟨b1, o1, e1, hB1, c1⟩ := hx.keep hb (by have := HN.out; omega)
        obtain ⟨b2, o2, e2, hB2, c2⟩ := hy.keep hb (by have := HM.out; omega)
        subst e1 e2
        have d1 := c1 j (by have := HN.out; omega)
        have d2 := c2 j (by have := HM.out; omega)
        have HT := Lib.hid (take_same (xs := xs) (ys := ys) (k := j) (by have := HN.out; omega) (by have := HM.out; omega))
        clear c1 c2 hx hy
        generalize xs[j]'(by have := HN.out; omega) = x at *
        generalize ys[j]'(by have := HM.out; omega) = y at *
        have hj0 : (0 : Int) ≤ (j : Int) := by omega
        have hjn : (j : Int) < (n : Int) := by omega
        have HTT := Lib.hid ht
        clear ht
        go_wp2
        go_quiet (fail)
        go_wp2
        · rename_i hne
          go_ret
          have hd : ¬ xs = ys := fun e => by have := HT.out; rw [e] at this; simp at hne; exact hne (this.1 rfl).2
          exact ⟨ret_bool (eqB_ne hd).symm, below_dN hb⟩
        · rename_i heq
          refine ⟨⟨j + 1, by omega, by go_num, ?_, below_dN hb⟩, by simp [intOf]; omega⟩
          exact HT.out.2 ⟨HTT.out, by simpa using heq⟩
      · have : j = n := by omega
        subst this
        have HTT := Lib.hid ht
        clear ht
        go_wp2
        go_ret
        have e1 : xs = ys := by rw [← List.take_of_length_le (i := j) (l := xs) (by have := HN.out; omega), HTT.out, List.take_of_length_le (by have := HM.out; omega)]
        exact ⟨ret_bool (eqB_refl e1).symm, hb⟩
  · have hne : ¬ xs.length = ys.length := by omega
    clear hn hm
    go_enter Try.func35, Try.ntmps35
    go_wp2
    go_ret
    exact ⟨ret_bool (eqB_ne fun e => hne (by rw [e])).symm, Below.refl _ _⟩

def maskB (m : Int) : Bool := decide (m ≠ 0) && decide (m ≤ 63)
def modeB (m n : Int) : Bool := decide (0 ≤ m) && decide (m < n)
def cellsB (xs : List Int) : Bool := decide (1 ≤ xs.length) && decide (xs.length ≤ 4) && xs.all (fun z => decide (z < 63))
theorem cellsB_no {xs : List Int} {x : Int} {j : Nat} (h : xs[j]? = some x) (hx : 63 ≤ x) : cellsB xs = false := by
  unfold cellsB
  have : xs.all (fun z => decide (z < 63)) = false := by
    rw [List.all_eq_false]; exact ⟨x, List.mem_of_getElem? h, by simp; omega⟩
  rw [this]; simp
theorem cellsB_yes {xs : List Int} (h1 : 1 ≤ xs.length) (h4 : xs.length ≤ 4) (h : ∀ i z, i < xs.length → xs[i]? = some z → z < 63) : cellsB xs = true := by
  unfold cellsB
  have : xs.all (fun z => decide (z < 63)) = true := by
    rw [List.all_eq_true]; intro x hx
    obtain ⟨i, hi, e⟩ := List.getElem_of_mem hx
    simpa using h i x hi (by rw [List.getElem?_eq_getElem hi, e])
  rw [this]; simp; omega
theorem all_step {xs : List Int} {P : Int → Prop} {j : Nat} {y : Int} (h : ∀ i z, i < j → xs[i]? = some z → P z) (hy : xs[j]? = some y) (hp : P y) : ∀ i z, i < j + 1 → xs[i]? = some z → P z := by
  intro i z hi e
  rcases Nat.lt_or_ge i j with g | g
  · exact h i z g e
  · obtain rfl : i = j := by omega
    rw [hy] at e; injection e with e; rw [← e]; exact hp
end Go.Proofs.Ytiedaongfjcbhaa
