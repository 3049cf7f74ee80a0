/- Merged by program: S3a -/
import Derived.Test.YtpkdlljefkbmpaaQ19

/-! law03's sanity: the table and what it gives. -/
namespace Go.Proofs.Ytpkdlljefkbmpaa
open Go.RowKit Go.Maps
def san3 : List Rule := [⟨⟨#[97]⟩, [1], 63, 63, 0, 0⟩, ⟨⟨#[]⟩, [60], 63, 8, 0, 1⟩, ⟨⟨#[49]⟩, [1], 63, 63, 1, 1⟩, ⟨⟨#[32]⟩, [0], 63, 63, 1, 0⟩]
def want3 : List St := [⟨0, 0, 63⟩, ⟨0, 1, 63⟩, ⟨1, 0, 8⟩, ⟨1, 1, 8⟩, ⟨1, 3, 63⟩, ⟨0, 4, 63⟩, ⟨1, 4, 8⟩]
theorem s3_states : (theG san3).1 = want3 := by decide +kernel
theorem s3_alive : aliveL 3 (theG san3) = [true, true, true, true, true, true, true] := by decide +kernel
theorem s3_run1 : (runT san3 [1, 2, 3, 0]).p = [49, 32, 97] ∧ (runT san3 [1, 2, 3, 0]).c = [60, 1, 0, 1] ∧ (runT san3 [1, 2, 3, 0]).n = 4 ∧ runOk 3 san3 [1, 2, 3, 0] = true := by decide +kernel
theorem s3_run2 : (runT san3 [1, 0]).n = 1 ∧ runOk 3 san3 [1, 0] = false := by decide +kernel
theorem s3_run3 : (runT san3 [1]).n = 1 ∧ runOk 3 san3 [1] = false := by decide +kernel
theorem s3_step1 : stepS san3 St.start 1 = (⟨1, 0, 8⟩, true) := by decide +kernel
theorem s3_step2 : stepS san3 ⟨1, 0, 8⟩ 0 = (St.zero, false) := by decide +kernel
theorem s3_step3 : stepS san3 ⟨1, 0, 8⟩ 4 = (St.zero, false) := by decide +kernel
theorem s3_acc : accB 3 ⟨0, 1, 63⟩ = true ∧ accB 3 ⟨1, 0, 8⟩ = false ∧ accB 3 ⟨2, 0, 63⟩ = false := by decide +kernel
theorem s3_good : GoodL 2 3 san3 := by
  refine ⟨by decide +kernel, ?_, by decide +kernel⟩
  intro i j h1 h2 hij
  have : ∀ i < 4, ∀ j < 4, i < j → san3[i]? ≠ san3[j]? := by decide +kernel
  intro e
  exact this i h1 j h2 hij (by rw [List.getElem?_eq_getElem h1, List.getElem?_eq_getElem h2, e])
theorem s3_fits : ∀ x ∈ san3, x.fits := by
  intro x hx
  simp only [san3, List.mem_cons, List.not_mem_nil, or_false] at hx
  rcases hx with rfl | rfl | rfl | rfl <;> exact ⟨by decide, by decide, by decide, by decide, by decide, by decide, by decide⟩
end Go.Proofs.Ytpkdlljefkbmpaa
