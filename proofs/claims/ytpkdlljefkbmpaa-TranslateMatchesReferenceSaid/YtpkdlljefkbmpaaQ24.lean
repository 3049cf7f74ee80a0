/- Merged by program: Rb1 Rb2 -/
import Derived.Test.YtpkdlljefkbmpaaQ1
import Derived.Test.YtpkdlljefkbmpaaQ2
import Derived.Deep.LoopGhost
import Derived.Deep.CutBlock
import Derived.Deep.CutRange

/-! Package readback: how many cells two lists have in common at their beginnings; the reference's begins. -/
namespace Go.Proofs.Ytpkdlljefkbmpaa
open Go.RowKit
end Go.Proofs.Ytpkdlljefkbmpaa

/-! Package readback: lists of texts in memory; the reference's Strings. -/
namespace Go.Proofs.Ytpkdlljefkbmpaa
open Go.RowKit
def SeqS (w : World) (B : Nat) (A : Option Addr) (ss : List ByteArray) : Prop :=
 0 < ss.length → ∃ b o : Nat, A = some ⟨b, o, none⟩ ∧ b < B ∧ ∀ j (h : j < ss.length), w.cell? ⟨b, o + j, none⟩ = some (.string ss[j])
theorem SeqS.nil {w : World} {B : Nat} {A : Option Addr} : SeqS w B A [] := fun h => absurd h (by simp)
theorem SeqS.keep {w w' : World} {B : Nat} {A : Option Addr} {ss : List ByteArray} (h : SeqS w B A ss) (hb : Below B w w') : SeqS w' B A ss := fun hl => by
 obtain ⟨b, o, e, hB, hc⟩ := h hl
 exact ⟨b, o, e, hB, fun j hj => (hb.cell (p := ⟨b, o + j, none⟩) hB).trans (hc j hj)⟩
theorem SeqS.more {w : World} {B B' : Nat} {A : Option Addr} {ss : List ByteArray} (h : SeqS w B A ss) (hB : B ≤ B') : SeqS w B' A ss := fun hl => by
 obtain ⟨b, o, e, hb, hc⟩ := h hl
 exact ⟨b, o, e, by omega, hc⟩
theorem SeqS.up {w w' : World} {A : Option Addr} {ss : List ByteArray} (h : SeqS w w.heap.size A ss) (hb : Below w.heap.size w w') : SeqS w' w'.heap.size A ss := (h.keep hb).more hb.size
end Go.Proofs.Ytpkdlljefkbmpaa
