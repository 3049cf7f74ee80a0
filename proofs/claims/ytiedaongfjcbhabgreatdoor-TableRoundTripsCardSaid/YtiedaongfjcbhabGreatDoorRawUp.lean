/- A description of a table stays what it is. -/
import Derived.Test.YtiedaongfjcbhabGreatDoorMake9
namespace Go.Proofs.YtiedaongfjcbhabGreatDoor
open Go.RowKit

theorem RawMs.up {w w' : World} {A : Option Addr} {n : Nat} (h : RawMs w w.heap.size A n) (hb : Below w.heap.size w w') : RawMs w' w'.heap.size A n := fun h0 => by
  obtain ⟨b, o, e, hB, hc⟩ := h h0
  refine ⟨b, o, e, by have := hb.size; omega, fun j hj => ?_⟩
  obtain ⟨PA, np, kp, CA, nc, kc, ps, cs, l, r, u0, u1, d0, d1, d2, d3, d4, d5, hp, hcn, hP, hC, rest⟩ := hc j hj
  have key : ∀ i, w'.cell? ⟨b, i, none⟩ = w.cell? ⟨b, i, none⟩ := fun i => hb.cell (p := ⟨b, i, none⟩) hB
  exact ⟨PA, np, kp, CA, nc, kc, ps, cs, l, r, u0, u1, (key _).trans d0, (key _).trans d1, (key _).trans d2, (key _).trans d3, (key _).trans d4, (key _).trans d5, hp, hcn, hP.up hb, hC.up hb, rest⟩
theorem Rules.fit {w : World} {B : Nat} {A : Option Addr} {rs : List Rule} (h : Rules w B A rs) : ∀ x ∈ rs, x.fits := by
  intro x hx
  obtain ⟨j, hj, rfl⟩ := List.getElem_of_mem hx
  obtain ⟨b, o, _, _, hc⟩ := h (by omega)
  obtain ⟨_, _, _, _, _, _, _, _, _, hf⟩ := hc j hj
  exact hf
end Go.Proofs.YtiedaongfjcbhabGreatDoor
