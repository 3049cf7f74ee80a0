/- Package table: formatCells, formatRule. -/
import Derived.Test.YtiedaongfjcbhaaFmt1
import Derived.Deep.RegionHeld3
import Derived.Deep.RegionWith
namespace Go.Proofs.Ytiedaongfjcbhaa
open Go.RowKit

theorem lens_bound (xs : List (List UInt8)) (B : Nat) (h : ∀ x ∈ xs, x.length ≤ B) : Lib.lens xs ≤ B * xs.length := by
  induction xs with
  | nil => simp [Lib.lens]
  | cons x r ih =>
    have h1 := h x (by simp)
    have h2 := ih (fun y hy => h y (by simp [hy]))
    have : Lib.lens (x :: r) = x.length + Lib.lens r := by simp [Lib.lens]
    rw [this, List.length_cons, Nat.mul_add]; omega
theorem join_bound (xs : List (List UInt8)) (sep : List UInt8) (B : Nat) (h : ∀ x ∈ xs, x.length ≤ B) : (Lib.join xs sep).length ≤ (B + sep.length) * xs.length := by
  cases xs with
  | nil => simp [Lib.join_nil]
  | cons x r =>
    rw [Lib.join_length]
    have := lens_bound (x :: r) B h
    rw [List.length_cons] at *
    rw [Nat.add_mul, Nat.mul_add sep.length]; omega
def fmtCells (c : List Int) : List UInt8 := Lib.join (c.map fun z : Int => toU (dotsText z.toNat)) [45]
theorem dotsText_len (c : Nat) : (dotsText c).length ≤ 6 := by
  unfold dotsText; split
  · simp
  · exact pre_len c 6
theorem info_str : (Try.prog.info? 9).map (fun i => (i.zero, i.size, i.bytes)) = some (some (.string ⟨#[]⟩), 1, 16) := by kernel_rfl
def dotF (xs : List Int) (j i : Nat) : ByteArray := if i < j then strOf (dotsText (xs.getD i 0).toNat) else ⟨#[]⟩
end Go.Proofs.Ytiedaongfjcbhaa
