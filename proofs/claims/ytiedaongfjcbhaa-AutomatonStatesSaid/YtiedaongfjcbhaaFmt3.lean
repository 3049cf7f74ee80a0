/- Package table: formatRule. -/
import Derived.Test.YtiedaongfjcbhaaFmt2
import Derived.Test.YtiedaongfjcbhaaTab10
import Derived.Lib.ItoaLen
namespace Go.Proofs.Ytiedaongfjcbhaa
open Go.RowKit

theorem keepF {V w' w'' : World} {g k : Nat} {x : Rule} {A : Option Addr} (hb : Below w'.heap.size w' w'')
    (H : Below V.heap.size V w' ∧ g < w'.heap.size ∧ w'.cell? ⟨g, 0, none⟩ = some (.string x.p) ∧ w'.cell? ⟨g, 1, none⟩ = some (.slice A x.c.length k) ∧ w'.cell? ⟨g, 2, none⟩ = some (.int .u8 x.l) ∧ w'.cell? ⟨g, 3, none⟩ = some (.int .u8 x.r) ∧ w'.cell? ⟨g, 4, none⟩ = some (.int .i64 x.f) ∧ w'.cell? ⟨g, 5, none⟩ = some (.int .i64 x.t)) :
    Below V.heap.size V w'' ∧ g < w''.heap.size ∧ w''.cell? ⟨g, 0, none⟩ = some (.string x.p) ∧ w''.cell? ⟨g, 1, none⟩ = some (.slice A x.c.length k) ∧ w''.cell? ⟨g, 2, none⟩ = some (.int .u8 x.l) ∧ w''.cell? ⟨g, 3, none⟩ = some (.int .u8 x.r) ∧ w''.cell? ⟨g, 4, none⟩ = some (.int .i64 x.f) ∧ w''.cell? ⟨g, 5, none⟩ = some (.int .i64 x.t) := by
  obtain ⟨h1, h2, a0, a1, a2, a3, a4, a5⟩ := H
  have hs := hb.size
  exact ⟨h1.trans (hb.mono (by have := h1.size; omega)), by omega, keepC hb a0 h2, keepC hb a1 h2, keepC hb a2 h2, keepC hb a3 h2, keepC hb a4 h2, keepC hb a5 h2⟩
theorem strU_size (l : List UInt8) : (strU l).size = l.length := by simp [strU, ByteArray.size]
theorem strU_app (a b : List UInt8) : strU a ++ strU b = strU (a ++ b) := by
  apply ByteArray.ext
  simp [strU, ByteArray.data_append]
/-- A rule that a line can hold: its numbers are numbers, its cells cells, its lists short. -/
def Rule.plain (x : Rule) : Prop := x.p.size < 1000 ∧ x.c.length < 1000 ∧ (∀ z ∈ x.c, 0 ≤ z ∧ z < 64) ∧ (0 ≤ x.l ∧ x.l < 256) ∧ (0 ≤ x.r ∧ x.r < 256) ∧ (-9223372036854775808 ≤ x.f ∧ x.f ≤ 9223372036854775807) ∧ (-9223372036854775808 ≤ x.t ∧ x.t ≤ 9223372036854775807)
def rowL (x : Rule) : List (List UInt8) := [Lib.itoa x.f, Lib.itoa x.t, Lib.itoa x.l, Lib.itoa x.r, fmtCells x.c, toU (fmtPrint (bytes x.p))]
def fmtRule (x : Rule) : List UInt8 := Lib.join (rowL x) [32] ++ [10]
end Go.Proofs.Ytiedaongfjcbhaa
