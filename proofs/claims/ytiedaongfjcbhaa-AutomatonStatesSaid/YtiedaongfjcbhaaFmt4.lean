/- Package table: Format. -/
import Derived.Test.YtiedaongfjcbhaaFmt3
namespace Go.Proofs.Ytiedaongfjcbhaa
open Go.RowKit

def headL (m a : Int) : List UInt8 := [109, 111, 100, 101, 115, 32] ++ Lib.itoa m ++ [32] ++ [97, 99, 99, 101, 112, 116] ++ [32] ++ Lib.itoa a ++ [10]
def linesL (m a : Int) (rs : List Rule) : List (List UInt8) := headL m a :: rs.map fmtRule
def fmtTable (m a : Int) (rs : List Rule) : List UInt8 := Lib.join (linesL m a rs) []
theorem fmtRule_len (x : Rule) (h : x.plain) : (fmtRule x).length ≤ 70000 := by
  obtain ⟨h1, h2, h3, h4, h5, h6, h7⟩ := h
  have hB : ∀ y ∈ rowL x, y.length ≤ 10000 := by
    intro y hy
    unfold rowL at hy
    simp only [List.mem_cons, List.not_mem_nil, or_false] at hy
    rcases hy with rfl | rfl | rfl | rfl | rfl | rfl
    · have := Lib.itoa_length_le x.f h6.1 h6.2; omega
    · have := Lib.itoa_length_le x.t h7.1 h7.2; omega
    · have := Lib.itoa_length_le x.l (by omega) (by omega); omega
    · have := Lib.itoa_length_le x.r (by omega) (by omega); omega
    · have := join_bound (x.c.map fun z : Int => toU (dotsText z.toNat)) [45] 6 (fun y hy => by
        rw [List.mem_map] at hy; obtain ⟨z, _, rfl⟩ := hy; unfold toU; rw [List.length_map]; exact dotsText_len _)
      rw [List.length_map] at this
      unfold fmtCells; simp at this; omega
    · unfold toU fmtPrint; rw [List.length_map]; split
      · simp
      · rw [hexes_len, bytes_len]; omega
  have := join_bound (rowL x) [32] 10000 hB
  have e : (rowL x).length = 6 := rfl
  rw [e] at this
  unfold fmtRule
  simp at this ⊢; omega
theorem own_keep {w w' : World} {base size n : Nat} {e : TypeId} {v : Value} {xs : List Value} (h : w.ownsRow base e size v n xs) (hb : Below w.heap.size w w') : w'.ownsRow base e size v n xs := by
  obtain ⟨hl, hf⟩ := id h
  refine ⟨hl, ?_⟩
  rcases hf with h0 | ⟨g, cap, cur, rfl, hg, hblk, hr⟩
  · exact .inl h0
  · exact .inr ⟨g, cap, cur, rfl, hg, (hb.block g (Blk.lt hblk)).trans hblk, hr⟩
theorem keepT {V w' w'' : World} {g : Nat} {m a : Int} {A : Option Addr} {n k : Nat} (hb : Below w'.heap.size w' w'')
    (H : Below V.heap.size V w' ∧ g < w'.heap.size ∧ w'.cell? ⟨g, 0, none⟩ = some (.int .i64 m) ∧ w'.cell? ⟨g, 1, none⟩ = some (.int .u8 a) ∧ w'.cell? ⟨g, 2, none⟩ = some (.slice A n k)) :
    Below V.heap.size V w'' ∧ g < w''.heap.size ∧ w''.cell? ⟨g, 0, none⟩ = some (.int .i64 m) ∧ w''.cell? ⟨g, 1, none⟩ = some (.int .u8 a) ∧ w''.cell? ⟨g, 2, none⟩ = some (.slice A n k) := by
  obtain ⟨h1, h2, a0, a1, a2⟩ := H
  have hs := hb.size
  exact ⟨h1.trans (hb.mono (by have := h1.size; omega)), by omega, keepC hb a0 h2, keepC hb a1 h2, keepC hb a2 h2⟩
end Go.Proofs.Ytiedaongfjcbhaa
