/- Package table: formatRule. -/
import Derived.Test.YtiedaongfjcbhabGreatDoorFmt2
import Derived.Test.YtiedaongfjcbhabGreatDoorTab10
import Derived.Lib.ItoaLen
namespace Go.Proofs.YtiedaongfjcbhabGreatDoor
open Go.RowKit

theorem keepF {V w' w'' : World} {g k : Nat} {x : Rule} {A : Option Addr} (hb : Below w'.heap.size w' w'')
    (H : Below V.heap.size V w' ∧ g < w'.heap.size ∧ w'.cell? ⟨g, 0, none⟩ = some (.string x.p) ∧ w'.cell? ⟨g, 1, none⟩ = some (.slice A x.c.length k) ∧ w'.cell? ⟨g, 2, none⟩ = some (.int .u8 x.l) ∧ w'.cell? ⟨g, 3, none⟩ = some (.int .u8 x.r) ∧ w'.cell? ⟨g, 4, none⟩ = some (.int .i64 x.f) ∧ w'.cell? ⟨g, 5, none⟩ = some (.int .i64 x.t)) :
    Below V.heap.size V w'' ∧ g < w''.heap.size ∧ w''.cell? ⟨g, 0, none⟩ = some (.string x.p) ∧ w''.cell? ⟨g, 1, none⟩ = some (.slice A x.c.length k) ∧ w''.cell? ⟨g, 2, none⟩ = some (.int .u8 x.l) ∧ w''.cell? ⟨g, 3, none⟩ = some (.int .u8 x.r) ∧ w''.cell? ⟨g, 4, none⟩ = some (.int .i64 x.f) ∧ w''.cell? ⟨g, 5, none⟩ = some (.int .i64 x.t) := by
  obtain ⟨h1, h2, a0, a1, a2, a3, a4, a5⟩ := H
  have hs := hb.size
  exact ⟨h1.trans (hb.mono (by have := h1.size; omega)), by omega, keepC hb a0 h2, keepC hb a1 h2, keepC hb a2 h2, keepC hb a3 h2, keepC hb a4 h2, keepC hb a5 h2⟩
theorem strU_size (l : List UInt8) : (strU l).size = l.length := by simp [strU, ByteArray.size]
theorem strU_app (a b : List UInt8) : strU a ++ strU b = strU (a ++ b) := by
  apply ByteArray.ext
  simp [strU, ByteArray.data_append]
/-- A rule that a line can hold: its numbers are numbers, its cells cells, its lists short. -/
def Rule.plain (x : Rule) : Prop := x.p.size < 1000 ∧ x.c.length < 1000 ∧ (∀ z ∈ x.c, 0 ≤ z ∧ z < 64) ∧ (0 ≤ x.l ∧ x.l < 256) ∧ (0 ≤ x.r ∧ x.r < 256) ∧ (-9223372036854775808 ≤ x.f ∧ x.f ≤ 9223372036854775807) ∧ (-9223372036854775808 ≤ x.t ∧ x.t ≤ 9223372036854775807)
def rowL (x : Rule) : List (List UInt8) := [Lib.itoa x.f, Lib.itoa x.t, Lib.itoa x.l, Lib.itoa x.r, fmtCells x.c, toU (fmtPrint (bytes x.p))]
def fmtRule (x : Rule) : List UInt8 := Lib.join (rowL x) [32] ++ [10]
set_option maxRecDepth 10000 in
set_option maxHeartbeats 2000000 in
theorem formatRule_any (A : Option Addr) (n k : Nat) (x : Rule) (w : World) (hn : x.c.length = n) (hx : Seq w w.heap.size A x.c) (hp : x.plain) (hL : Laid w) :
    Calls Tryz.prog 19 #[.agg #[.string x.p, .slice A n k, .int .u8 x.l, .int .u8 x.r, .int .i64 x.f, .int .i64 x.t]] w fun e w' => e = .returned (.string (strU (fmtRule x))) ∧ Below w.heap.size w w' := by
  subst hn
  obtain ⟨h1, h2, h3, h4, h5, h6, h7⟩ := hp
  have H3 := Lib.hid h3
  clear h3
  have hbx := Lib.hid (below_box w #[.string x.p, .slice A x.c.length k, .int .u8 x.l, .int .u8 x.r, .int .i64 x.f, .int .i64 x.t] 43)
  have hblk := Blk.new w #[.string x.p, .slice A x.c.length k, .int .u8 x.l, .int .u8 x.r, .int .i64 x.f, .int .i64 x.t] 43
  have hX := hx.up hbx.out
  have hLL := hL.keep hbx.out
  go_enter Tryz.func19, Tryz.ntmps19
  go_wp2
  generalize w.alloc (.cells #[.string x.p, .slice A x.c.length k, .int .u8 x.l, .int .u8 x.r, .int .i64 x.f, .int .i64 x.t] 43) = V at *
  obtain ⟨g, hg⟩ : ∃ g, w.heap.size = g := ⟨_, rfl⟩
  rw [hg] at hblk ⊢
  have hS : Below V.heap.size V V ∧ g < V.heap.size ∧ V.cell? ⟨g, 0, none⟩ = some (.string x.p) ∧ V.cell? ⟨g, 1, none⟩ = some (.slice A x.c.length k) ∧ V.cell? ⟨g, 2, none⟩ = some (.int .u8 x.l) ∧ V.cell? ⟨g, 3, none⟩ = some (.int .u8 x.r) ∧ V.cell? ⟨g, 4, none⟩ = some (.int .i64 x.f) ∧ V.cell? ⟨g, 5, none⟩ = some (.int .i64 x.t) := ⟨Below.refl _ _, hblk.lt, by rw [hblk.cell 0]; rfl, by rw [hblk.cell 1]; rfl, by rw [hblk.cell 2]; rfl, by rw [hblk.cell 3]; rfl, by rw [hblk.cell 4]; rfl, by rw [hblk.cell 5]; rfl⟩
  have HX := Lib.hid hX
  have HLL := Lib.hid hLL
  have HG := Lib.hid hg
  clear hblk hx hL hX hLL hg
  have c1 : IntKind.i64.wrap x.l = x.l := IntWalk.i64_in _ (by omega)
  have c2 : IntKind.i64.wrap x.r = x.r := IntWalk.i64_in _ (by omega)
  have c3 : 0 ≤ x.l := h4.1
  have c4 : x.l < 256 := h4.2
  have c5 : 0 ≤ x.r := h5.1
  have c6 : x.r < 256 := h5.2
  go_region_held3 (fun w' => Below V.heap.size V w' ∧ g < w'.heap.size ∧ w'.cell? ⟨g, 0, none⟩ = some (.string x.p) ∧ w'.cell? ⟨g, 1, none⟩ = some (.slice A x.c.length k) ∧ w'.cell? ⟨g, 2, none⟩ = some (.int .u8 x.l) ∧ w'.cell? ⟨g, 3, none⟩ = some (.int .u8 x.r) ∧ w'.cell? ⟨g, 4, none⟩ = some (.int .i64 x.f) ∧ w'.cell? ⟨g, 5, none⟩ = some (.int .i64 x.t)) (first | assumption | (apply keepF; (first | assumption | exact Below.drew (Below.refl _ _) | exact below_box _ _ _); assumption))
    (first | (go_at_call 18; refine (itoa_any _ (by omega) (by omega) _ (by first | exact HLL.out | exact HLL.out.keep (And.left (by assumption)))).mono ?_; rintro e w1 ⟨rfl, hb1⟩) | (go_at_call 39; refine (formatCells_any A _ k x.c _ rfl (by omega) (by first | exact HX.out | exact HX.out.up (And.left (by assumption))) H3.out).mono ?_; rintro e w1 ⟨rfl, hb1⟩) | (go_at_call 40; refine (formatPrint_any _ _ (by omega)).mono ?_; rintro e w1 ⟨rfl, hb1⟩))
  rename_i hheld
  have hv := hheld.1
  have HV := Lib.hid hv
  have hc : ∀ (j : Nat) (y : List UInt8), (rowL x)[j]? = some y → (w1.alloc (.cells #[.string (strU (Lib.itoa x.f)), .string (strU (Lib.itoa x.t)), .string (strU (Lib.itoa x.l)), .string (strU (Lib.itoa x.r)), .string (strU (fmtCells x.c)), .string (strOf (fmtPrint (bytes x.p)))] 9)).cell? ⟨w1.heap.size, 0 + j, none⟩ = some (.string (strU y)) := fun j y h => by
    have := cells_lit_new w1 ((rowL x).map fun y => Value.string (strU y)) 9 j (.string (strU y)) (by rw [List.getElem?_map, h]; rfl)
    rw [add_zero_addr] at this
    rw [Nat.zero_add]; exact this
  have hsz : w1.heap.size < (w1.alloc (.cells #[.string (strU (Lib.itoa x.f)), .string (strU (Lib.itoa x.t)), .string (strU (Lib.itoa x.l)), .string (strU (Lib.itoa x.r)), .string (strU (fmtCells x.c)), .string (strOf (fmtPrint (bytes x.p)))] 9)).heap.size := by simp
  have hB : ∀ y ∈ rowL x, y.length ≤ 10000 := by
    intro y hy
    unfold rowL at hy
    simp only [List.mem_cons, List.not_mem_nil, or_false] at hy
    rcases hy with rfl | rfl | rfl | rfl | rfl | rfl
    · have := Lib.itoa_length_le x.f h6.1 h6.2; omega
    · have := Lib.itoa_length_le x.t h7.1 h7.2; omega
    · have := Lib.itoa_length_le x.l (by omega) (by omega); omega
    · have := Lib.itoa_length_le x.r (by omega) (by omega); omega
    · have := join_bound (x.c.map fun z : Int => toU (dotsText z.toNat)) [45] 6 (fun y hy => by
        rw [List.mem_map] at hy; obtain ⟨z, _, rfl⟩ := hy; unfold toU; rw [List.length_map]; exact dotsText_len _)
      rw [List.length_map] at this
      unfold fmtCells; simp at this; omega
    · unfold toU fmtPrint; rw [List.length_map]; split
      · simp
      · rw [hexes_len, bytes_len]; omega
  have HC := Lib.hid hc
  clear hheld hv hc c1 c2
  go_wp2_with fail
  have h0 : (⟨#[32]⟩ : ByteArray).data.toList = [32] := by simp
  refine (join_lit w1.heap.size 0 6 6 (rowL x) ⟨#[32]⟩ [32] _ rfl h0 HC.out hsz (Nat.le_refl _) 10000 hB (by simp) (by omega)).mono ?_
  rintro e w2 ⟨rfl, hb2⟩
  have HB2 := Lib.hid (below_next (below_next hbx.out HV.out) hb2)
  clear hb2 h0
  have hsz2 : (strU (Lib.join (rowL x) [32])).size ≤ 100000 := by
    rw [strU_size]
    have := join_bound (rowL x) [32] 10000 hB
    have e : (rowL x).length = 6 := rfl
    rw [e] at this
    simp at this; omega
  go_wp2
  go_ret
  exact ⟨congrArg (fun s => Ending.returned (.string s)) (strU_app (Lib.join (rowL x) [32]) [10]), HB2.out⟩
end Go.Proofs.YtiedaongfjcbhabGreatDoor
