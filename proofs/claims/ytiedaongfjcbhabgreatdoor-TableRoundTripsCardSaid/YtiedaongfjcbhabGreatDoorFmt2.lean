/- Package table: formatCells, formatRule. -/
import Derived.Test.YtiedaongfjcbhabGreatDoorFmt1
import Derived.Deep.RegionHeld3
import Derived.Deep.RegionWith
namespace Go.Proofs.YtiedaongfjcbhabGreatDoor
open Go.RowKit

theorem lens_bound (xs : List (List UInt8)) (B : Nat) (h : ∀ x ∈ xs, x.length ≤ B) : Lib.lens xs ≤ B * xs.length := by
  induction xs with
  | nil => simp [Lib.lens]
  | cons x r ih =>
    have h1 := h x (by simp)
    have h2 := ih (fun y hy => h y (by simp [hy]))
    have : Lib.lens (x :: r) = x.length + Lib.lens r := by simp [Lib.lens]
    rw [this, List.length_cons, Nat.mul_add]; omega
theorem join_bound (xs : List (List UInt8)) (sep : List UInt8) (B : Nat) (h : ∀ x ∈ xs, x.length ≤ B) : (Lib.join xs sep).length ≤ (B + sep.length) * xs.length := by
  cases xs with
  | nil => simp [Lib.join_nil]
  | cons x r =>
    rw [Lib.join_length]
    have := lens_bound (x :: r) B h
    rw [List.length_cons] at *
    rw [Nat.add_mul, Nat.mul_add sep.length]; omega
/-- strings.Join, its parts given as lists of bytes. -/
theorem join_lit (b o c n : Nat) (ls : List (List UInt8)) (sep : ByteArray) (sl : List UInt8) (w : World) (hn : ls.length = n) (hs : sep.data.toList = sl)
    (hcells : ∀ (j : Nat) x, ls[j]? = some x → w.cell? ⟨b, o + j, none⟩ = some (.string (strU x))) (hb : b < w.heap.size) (hcap : n ≤ c) (B : Nat) (hB : ∀ x ∈ ls, x.length ≤ B) (hlim : (B + sl.length) * n ≤ 140737488355328) (hN : n ≤ 140737488355328) :
    Calls Tryz.prog 20 #[.slice (some ⟨b, o, none⟩) n c, .string sep] w fun e w' => e = .returned (.string (strU (Lib.join ls sl))) ∧ Below w.heap.size w w' := by
  subst hn hs
  have hm : (ls.map strU).map (·.data.toList) = ls := by
    rw [List.map_map]
    conv => rhs; rw [← List.map_id ls]
    exact List.map_congr_left fun x _ => by simp [strU]
  have hl : (ls.map strU).length = ls.length := by simp
  have := Tryz.strings_Join b o c (ls.map strU) sep w (fun j x h => by
    rw [List.getElem?_map] at h
    cases hj : ls[j]? with
    | none => rw [hj] at h; cases h
    | some y => rw [hj] at h; injection h with h; rw [← h]; exact hcells j y hj) hb (by rw [hl]; exact hN) (by rw [hl]; exact hcap) (by rw [hm]; exact Nat.le_trans (join_bound _ _ B hB) hlim)
  rw [hl, hm] at this
  exact this
def fmtCells (c : List Int) : List UInt8 := Lib.join (c.map fun z : Int => toU (dotsText z.toNat)) [45]
theorem dotsText_len (c : Nat) : (dotsText c).length ≤ 6 := by
  unfold dotsText; split
  · simp
  · exact pre_len c 6
theorem info_str : (Tryz.prog.info? 9).map (fun i => (i.zero, i.size, i.bytes)) = some (some (.string ⟨#[]⟩), 1, 16) := by kernel_rfl
theorem make_str (w : World) (n : Nat) (hn : n < 2 ^ 40) :
    (Instr.makeSlice 53 (.int .i64 n) (.int .i64 n)).run Tryz.prog w = .ok (.slice (some ⟨w.heap.size, 0, none⟩) n n) (w.alloc (.cells (rowOf (fun _ => .string ⟨#[]⟩) n) 9)) := by
  obtain ⟨i0, hi, hz0, hz1, hz2⟩ := info_parts info_str
  have := run_make (P := Tryz.prog) w 53 9 i0 (.string ⟨#[]⟩) Tryz.underlying53 hi hz0 .i64 .i64 n n (by omega) (by omega) (by rw [hz2]; omega) (by omega)
  rw [this, hz1, ← made_row]; simp [Value.cells]
def dotF (xs : List Int) (j i : Nat) : ByteArray := if i < j then strOf (dotsText (xs.getD i 0).toNat) else ⟨#[]⟩
set_option maxRecDepth 10000 in
set_option maxHeartbeats 1000000 in
theorem formatCells_any (A : Option Addr) (n k : Nat) (xs : List Int) (w : World) (hn : xs.length = n) (hmax : n < 2 ^ 40) (hx : Seq w w.heap.size A xs) (hv : ∀ z ∈ xs, 0 ≤ z ∧ z < 64) :
    Calls Tryz.prog 39 #[.slice A n k] w fun e w' => e = .returned (.string (strU (fmtCells xs))) ∧ Below w.heap.size w w' := by
  have HN := Lib.hid hn
  have HV := Lib.hid hv
  clear hn hv
  have hmk := make_str w n hmax
  have hnew := Lib.hid (Blk.new w (rowOf (fun _ => .string ⟨#[]⟩) n) 9)
  have hbel := Lib.hid (below_box w (rowOf (fun _ => .string ⟨#[]⟩) n) 9)
  go_enter Tryz.func39, Tryz.ntmps39
  go_wp2
  generalize w.alloc (.cells (rowOf (fun _ => .string ⟨#[]⟩) n) 9) = w0 at *
  go_loopw [11] (fun i wr => ∃ j : Nat, j ≤ n ∧ i = .int .i64 j ∧ Blk wr w.heap.size 9 (rowOf (fun i => .string (dotF xs j i)) n) ∧ Below w.heap.size w wr) (fun i _ => n - (intOf i).toNat)
  case atStart => exact ⟨0, by omega, rfl, hnew.out, hbel.out⟩
  case round =>
    obtain ⟨j, hj, rfl, hblk, hb⟩ := hrel
    clear hmk hnew hbel
    by_cases hlt : j < n
    · obtain ⟨b1, o1, e1, hB1, c1⟩ := hx.keep hb (by have := HN.out; omega)
      subst e1
      have d1 := c1 j (by have := HN.out; omega)
      have hj0 : (0 : Int) ≤ (j : Int) := by omega
      have hjn : (j : Int) < (n : Int) := by omega
      have HX : Hid (xs.getD j 0 = xs[j]'(by have := HN.out; omega)) := by unfold Hid; rw [List.getD_eq_getElem?_getD, List.getElem?_eq_getElem (by have := HN.out; omega), Option.getD_some]
      have hz := HV.out _ (List.getElem_mem (h := by have := HN.out; omega) : xs[j]'(by have := HN.out; omega) ∈ xs)
      clear c1 hx
      generalize xs[j]'(by have := HN.out; omega) = x at *
      obtain ⟨c, rfl⟩ := Int.eq_ofNat_of_zero_le hz.1
      have hc : c < 64 := by omega
      have hlt2 := hblk.lt
      have HBLK := Lib.hid hblk
      have HB := Lib.hid hb
      have hs1 := hb.size
      clear hblk hb
      go_wp2_with fail
      refine (dots_any c hc _).mono ?_
      rintro e w1 ⟨rfl, hb1⟩
      have hblk1 := HBLK.out.keep hb1 hlt2
      have HB1 := Lib.hid (below_next HB.out hb1)
      have f0 := hblk1.cell j
      rw [rowOf_get _ _ _ hlt] at f0
      have f1 := hblk1.free j
      have HBLK1 := Lib.hid hblk1
      clear hb1 hblk1
      go_wp2
      refine ⟨⟨j + 1, by omega, by go_num, ?_, HB1.out.setCell (Nat.le_refl _) _⟩, by simp [intOf]; omega⟩
      have := HBLK1.out.set j (.string (strOf (dotsText c)))
      rw [rowOf_set (g := fun i => .string (dotF xs (j + 1) i))] at this
      · exact this
      · simp only [dotF, if_pos (Nat.lt_succ_self j)]; rw [HX.out]; rfl
      · intro i hi; simp only [dotF]; congr 1; by_cases hij : i < j
        · rw [if_pos hij, if_pos (by omega)]
        · rw [if_neg hij, if_neg (by omega)]
    · have : j = n := by omega
      subst this
      have hcells : Hid (∀ (i : Nat) x, (xs.map fun z : Int => toU (dotsText z.toNat))[i]? = some x → wr.cell? ⟨w.heap.size, 0 + i, none⟩ = some (.string (strU x))) := fun i x h => by
        have hi : i < j := by
          rcases Nat.lt_or_ge i j with g | g
          · exact g
          · rw [List.getElem?_eq_none (by simp; have := HN.out; omega)] at h; cases h
        rw [List.getElem?_map, List.getElem?_eq_getElem (by have := HN.out; omega)] at h
        injection h with h
        rw [Nat.zero_add, hblk.cell i, rowOf_get _ _ _ hi, ← h]
        simp only [dotF, if_pos hi, List.getD_eq_getElem?_getD]
        rw [List.getElem?_eq_getElem (by have := HN.out; omega)]; rfl
      have hlt2 := hblk.lt
      have HB := Lib.hid hb
      clear hblk hb
      go_wp2_with fail
      have h1 : (xs.map fun z : Int => toU (dotsText z.toNat)).length = j := by rw [List.length_map]; exact HN.out
      have h2 : ∀ x ∈ (xs.map fun z : Int => toU (dotsText z.toNat)), x.length ≤ 6 := fun x hx' => by
        rw [List.mem_map] at hx'; obtain ⟨z, _, rfl⟩ := hx'; unfold toU; rw [List.length_map]; exact dotsText_len _
      have h3 : (6 + ([45] : List UInt8).length) * j ≤ 140737488355328 := by simp; omega
      have h0 : (⟨#[45]⟩ : ByteArray).data.toList = [45] := by simp
      have hc2 := hcells.out
      have h4 := join_lit w.heap.size 0 j j (xs.map fun z : Int => toU (dotsText z.toNat)) ⟨#[45]⟩ [45] wr h1 h0 hc2 hlt2 (Nat.le_refl _) 6 h2 h3 (by omega)
      refine h4.mono ?_
      rintro e w1 ⟨rfl, hb1⟩
      have HB1 := Lib.hid (below_next HB.out hb1)
      clear hb1
      go_wp2
      go_ret
      exact ⟨rfl, HB1.out⟩
end Go.Proofs.YtiedaongfjcbhabGreatDoor
