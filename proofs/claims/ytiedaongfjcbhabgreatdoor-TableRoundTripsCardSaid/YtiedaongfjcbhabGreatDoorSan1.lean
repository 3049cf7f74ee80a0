/- The fixed examples of the laws of stage 2, as facts of the pure functions. -/
import Derived.Test.YtiedaongfjcbhabGreatDoorMake2
namespace Go.Proofs.YtiedaongfjcbhabGreatDoor
open Go.RowKit

theorem s_cls : clsI 113 = 1 ∧ clsI 81 = 2 ∧ clsI 55 = 3 ∧ clsI 45 = 5 ∧ clsI 32 = 4 ∧ clsI 241 = 1 ∧ clsI 3 = 5 := by decide +kernel
theorem s_text1 : textAt (bytes ⟨#[97, 98]⟩) = 2 ∧ textE (bytes ⟨#[97, 98]⟩) = 0 := by decide +kernel
theorem s_text2 : textAt (bytes ⟨#[97, 10]⟩) = 1 ∧ textE (bytes ⟨#[97, 10]⟩) = 60 := by decide +kernel
theorem s_clean : cleanB (bytes ⟨#[97, 32, 98]⟩) = true ∧ cleanB (bytes ⟨#[32, 97]⟩) = false ∧ cleanB (bytes ⟨#[97, 32, 32, 98]⟩) = false ∧ cleanB (bytes ⟨#[]⟩) = false ∧ cleanB (bytes ⟨#[97, 160]⟩) = false := by decide +kernel
theorem s_chk0 : chkI 0 1 lettersR = -1 ∧ chkE 0 1 lettersR = 1 := by decide +kernel
theorem s_chk2 : chkI 1 1 [simpleR (strOf [97]) [1] 0 0, simpleR (strOf [97]) [1] 0 0] = 1 ∧ chkE 1 1 [simpleR (strOf [97]) [1] 0 0, simpleR (strOf [97]) [1] 0 0] = 20 := by decide +kernel
theorem s_valid : validB 1 1 lettersR = true := by decide +kernel
theorem s_parse0 : parseT [] = .form 0 := by rfl
theorem s_parse1 : parseT [109, 111, 100, 101, 115, 32, 49, 32, 97, 99, 99, 101, 112, 116, 32, 49] = .form 0 := by kernel_rfl
theorem s_parse2 : parseT [109, 111, 100, 101, 115, 32, 49, 32, 97, 99, 99, 101, 112, 116, 32, 49, 10] = .done 1 1 [] := by kernel_rfl
theorem s_chk3 : chkI 1 1 [] = -1 ∧ chkE 1 1 [] = 1 := by decide +kernel
def sanR : Rule := ⟨strOf [97, 98], [3], 63, 2, 0, 1⟩
theorem s_fmt : fmtTable 2 3 [sanR] = [109, 111, 100, 101, 115, 32, 50, 32, 97, 99, 99, 101, 112, 116, 32, 51, 10, 48, 32, 49, 32, 54, 51, 32, 50, 32, 49, 50, 32, 54, 49, 54, 50, 10] := by kernel_rfl
end Go.Proofs.YtiedaongfjcbhabGreatDoor
