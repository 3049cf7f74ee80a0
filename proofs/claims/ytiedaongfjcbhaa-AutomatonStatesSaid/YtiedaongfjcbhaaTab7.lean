/- Package table: sound rules. -/
import Derived.Test.YtiedaongfjcbhaaTab6
namespace Go.Proofs.Ytiedaongfjcbhaa
open Go.RowKit

def soundB (x : Rule) (m : Int) : Bool := decide (x.p.size ≤ 4) && isTextB (bytes x.p) && cellsB x.c && blanksB (bytes x.p) x.c && maskB x.l && maskB x.r && modeB x.f m && modeB x.t m
theorem chain8 (b1 b2 b3 b4 b5 b6 b7 b8 : Bool) : (b1 = false) ∨ (b1 = true ∧ b2 = false) ∨ (b1 = true ∧ b2 = true ∧ b3 = false) ∨ (b1 = true ∧ b2 = true ∧ b3 = true ∧ b4 = false) ∨ (b1 = true ∧ b2 = true ∧ b3 = true ∧ b4 = true ∧ b5 = false) ∨ (b1 = true ∧ b2 = true ∧ b3 = true ∧ b4 = true ∧ b5 = true ∧ b6 = false) ∨ (b1 = true ∧ b2 = true ∧ b3 = true ∧ b4 = true ∧ b5 = true ∧ b6 = true ∧ b7 = false) ∨ (b1 = true ∧ b2 = true ∧ b3 = true ∧ b4 = true ∧ b5 = true ∧ b6 = true ∧ b7 = true ∧ b8 = false) ∨ (b1 = true ∧ b2 = true ∧ b3 = true ∧ b4 = true ∧ b5 = true ∧ b6 = true ∧ b7 = true ∧ b8 = true) := by
  cases b1 <;> cases b2 <;> cases b3 <;> cases b4 <;> cases b5 <;> cases b6 <;> cases b7 <;> cases b8 <;> simp
end Go.Proofs.Ytiedaongfjcbhaa
