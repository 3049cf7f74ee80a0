/- Merged by program: OpenI -/
import Derived.Test.YtkjlpmkhifjmdaaQ22

/-! Opening an argument that is a list of small signed numbers. -/
namespace Go.Proofs.Ytkjlpmkhifjmdaa
open Go.ChangeShapes Go.WideShapes Go.RowKit Go.Deep
/-- A slice that reads as a list of small signed numbers. -/
def SeqI (w : World) (B : Nat) (A : Option Addr) (xs : List Int) : Prop :=
  0 < xs.length → ∃ b o : Nat, A = some ⟨b, o, none⟩ ∧ b < B ∧ ∀ j (h : j < xs.length), w.cell? ⟨b, o + j, none⟩ = some (.int .i8 xs[j])
section
variable {H : Type} {enc : TypeId × Value → H} {W : World} {base : Nat} {spare : Nat → Bool} {held : Bool}
set_option maxRecDepth 10000 in
theorem open_int8s {r : Reach} {b0 : Nat} {v : Value} {d : DataW H} {p : List MemPlace} (hv : Value.okWide Try.prog W r b0 27 v) (h : DataW.Trod enc Try.prog W base spare held 27 v d p) :
    ∃ (A : Option Addr) (k : Nat) (cs : List Int), v = .slice A cs.length k ∧ SeqI W W.heap.size A cs ∧ ∀ z ∈ cs, -128 ≤ z ∧ z ≤ 127 := by
  obtain ⟨a, len, cap, rfl⟩ := okWide_slice Try.underlying27 hv
  obtain ⟨fuel, hf⟩ := h
  rcases open_ints Try.underlying27 Try.underlying34 (by kernel_rfl) (cs := [.slice a len cap]) hf with ⟨hcs, _⟩ | ⟨x, l, c, zs, hcs, _, hl, hm, hz, _, hcell, hwz⟩
  · have e : (Value.slice a len cap) = .slice none 0 0 := by simpa using hcs
    rw [e]
    exact ⟨none, 0, [], rfl, (fun h => absurd h (by simp)), by simp⟩
  · have e : (Value.slice a len cap) = .slice (some x) l c := by simpa using hcs
    rw [e]
    have hlz : l ≤ zs.length := by rw [hz]; split <;> omega
    refine ⟨some x, c, zs.take l, by simp [Nat.min_eq_left hlz], fun hl0 => ?_, fun z hz' => ?_⟩
    · have h0 := hcell 0 (by simp at hl0; omega)
      obtain ⟨b, o, ha⟩ := addr_plain h0
      obtain ⟨b', o', rfl⟩ : ∃ b' o', x = ⟨b', o', none⟩ := by
        obtain ⟨b', o', s⟩ := x
        simp [Addr.add] at ha
        exact ⟨b', o', by rw [ha.2.2]⟩
      refine ⟨b', o', rfl, block_lt_of_cell (a := (⟨b', o', none⟩ : Addr)) (by simpa [Addr.add] using h0), fun i hi => ?_⟩
      simp only [List.length_take] at hi
      have hc := hcell i (by omega)
      rw [plain_add] at hc
      rw [hc, List.getElem_take, List.getD_eq_getElem?_getD, List.getElem?_eq_getElem (by omega), Option.getD_some]
    · exact bounds_i8 (hwz z (List.mem_of_mem_take hz'))
end
end Go.Proofs.Ytkjlpmkhifjmdaa
