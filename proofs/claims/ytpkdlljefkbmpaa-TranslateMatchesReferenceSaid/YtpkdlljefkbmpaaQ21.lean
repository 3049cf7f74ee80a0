/- Merged by program: S3a -/
import Derived.Test.YtpkdlljefkbmpaaQ19

/-! law03's sanity: the table and what it gives. -/
namespace Go.Proofs.Ytpkdlljefkbmpaa
open Go.RowKit Go.Maps
def san3 : List Rule := [⟨⟨#[97]⟩, [1], 63, 63, 0, 0⟩, ⟨⟨#[]⟩, [60], 63, 8, 0, 1⟩, ⟨⟨#[49]⟩, [1], 63, 63, 1, 1⟩, ⟨⟨#[32]⟩, [0], 63, 63, 1, 0⟩]
theorem s3_good : GoodL 2 3 san3 := by
 refine ⟨by decide +kernel, ?_, by decide +kernel⟩
 intro i j h1 h2 hij
 have : ∀ i < 4, ∀ j < 4, i < j → san3[i]? ≠ san3[j]? := by decide +kernel
 intro e
 exact this i h1 j h2 hij (by rw [List.getElem?_eq_getElem h1, List.getElem?_eq_getElem h2, e])
theorem s3_fits : ∀ x ∈ san3, x.fits := by
 intro x hx
 simp only [san3, List.mem_cons, List.not_mem_nil, or_false] at hx
 rcases hx with rfl | rfl | rfl | rfl <;> exact ⟨by decide, by decide, by decide, by decide, by decide, by decide, by decide⟩
end Go.Proofs.Ytpkdlljefkbmpaa
