/- cellsOfBytes: the table of the cells of all bytes. -/
import Derived.Test.YtmbaebbhecfpdaaA
namespace Go.Proofs.Ytmbaebbhecfpdaa
open Go.RowKit

def chars : List Nat := [32, 65, 49, 66, 39, 75, 50, 76, 64, 67, 73, 70, 47, 77, 83, 80, 34, 69, 51, 72, 57, 79, 54, 82, 94, 68, 74, 71, 62, 78, 84, 81, 44, 42, 53, 60, 45, 85, 56, 86, 46, 37, 91, 36, 43, 88, 33, 38, 59, 58, 52, 92, 48, 90, 55, 40, 95, 63, 87, 93, 35, 89, 41, 61]
/-- The cell of a byte: 64 for none. -/
def cellOf (b : Nat) : Nat := chars.idxOf b
/-- The table behind k characters. -/
def tabAt (k b : Nat) : Nat := if cellOf b < k then cellOf b else 64
theorem cellOf_char (k : Nat) (hk : k < 64) : cellOf (chars.getD k 0) = k := by
  have h := allB_out (n := 64) (p := fun k => cellOf (chars.getD k 0) == k) (by decide +kernel) k hk
  simpa using h
theorem char_cellOf (b : Nat) (h : cellOf b < 64) : chars.getD (cellOf b) 0 = b := by
  have e : cellOf b < chars.length := h
  have := List.getElem_idxOf e
  rw [List.getD_eq_getElem?_getD, List.getElem?_eq_getElem e, Option.getD_some]
  exact this
theorem cellOf_le (b : Nat) : cellOf b ≤ 64 := List.idxOf_le_length (a := b) (l := chars)
theorem tabAt_full (b : Nat) : tabAt 64 b = cellOf b := by
  have := cellOf_le b; unfold tabAt; split <;> omega
def rowOf (f : Nat → Value) (n : Nat) : Array Value := ((List.range n).map f).toArray
theorem rowOf_size (f : Nat → Value) (n : Nat) : (rowOf f n).size = n := by simp [rowOf]
theorem rowOf_get (f : Nat → Value) (n j : Nat) (h : j < n) : (rowOf f n)[j]? = some (f j) := by simp [rowOf, h]
theorem rowOf_set (f g : Nat → Value) (n k : Nat) (v : Value) (hv : g k = v) (ho : ∀ j, j ≠ k → g j = f j) :
    (rowOf f n).setIfInBounds k v = rowOf g n := by
  apply Array.ext'
  unfold rowOf
  rw [Array.toList_setIfInBounds]
  simp only
  apply List.ext_getElem?
  intro j
  rw [List.getElem?_set]
  by_cases h : k = j
  · subst h
    by_cases hk : k < n <;> simp [hk, hv]
  · simp only [if_neg h, List.getElem?_map]
    rcases Nat.lt_or_ge j n with hj | hj
    · simp [hj, ho j (fun e => h e.symm)]
    · simp [hj]
theorem rowOf_congr {f g : Nat → Value} {n : Nat} (h : ∀ j, j < n → f j = g j) : rowOf f n = rowOf g n := by
  unfold rowOf
  congr 1
  exact List.map_congr_left fun b hb => h b (List.mem_range.1 hb)
theorem rowOf_one (f : Nat → Value) (n : Nat) (h : ∀ j, (f j).oneCell' = true) : (rowOf f n).all (·.oneCell') = true := by
  simp [rowOf, h]
def tabRow (k : Nat) : Array Value := rowOf (fun b => Value.int .u8 (tabAt k b : Int)) 256
def fillRow (k : Nat) : Array Value := rowOf (fun b => Value.int .u8 (if b < k then 64 else 0)) 256
theorem fillRow_size (k : Nat) : (fillRow k).size = 256 := rowOf_size _ _
theorem tabRow_size (k : Nat) : (tabRow k).size = 256 := rowOf_size _ _
theorem tabRow_one (k : Nat) : (tabRow k).all (·.oneCell') = true := rowOf_one _ _ (fun _ => rfl)
theorem fillRow_get (k : Nat) (h : k < 256) : (fillRow k)[k]? = some (.int .u8 0) := by
  unfold fillRow; rw [rowOf_get _ _ _ h, if_neg (Nat.lt_irrefl k)]
theorem fillRow_set (k : Nat) : (fillRow k).setIfInBounds k (.int .u8 64) = fillRow (k + 1) := by
  unfold fillRow
  refine rowOf_set _ _ _ _ _ (by rw [if_pos (Nat.lt_succ_self k)]) (fun j hj => ?_)
  by_cases h : j < k
  · rw [if_pos h, if_pos (Nat.lt_succ_of_lt h)]
  · rw [if_neg h, if_neg (by omega)]
theorem fillRow_done : fillRow 256 = tabRow 0 := by
  unfold fillRow tabRow
  refine rowOf_congr fun b hb => ?_
  rw [if_pos hb]; rfl
theorem zero52 (w : World) : (zeroValue 52).run Try.prog w = .ok (.agg (fillRow 0)) w := by kernel_rfl
def chB : ByteArray := ⟨#[32, 65, 49, 66, 39, 75, 50, 76, 64, 67, 73, 70, 47, 77, 83, 80, 34, 69, 51, 72, 57, 79, 54, 82, 94, 68, 74, 71, 62, 78, 84, 81, 44, 42, 53, 60, 45, 85, 56, 86, 46, 37, 91, 36, 43, 88, 33, 38, 59, 58, 52, 92, 48, 90, 55, 40, 95, 63, 87, 93, 35, 89, 41, 61]⟩
theorem chB_size : chB.size = 64 := by decide
theorem chB_get (k : Nat) (h : k < chB.size) : (chB[k]'h).toNat = chars.getD k 0 ∧ chars.getD k 0 < 128 := by
  have hk : k < 64 := by rw [chB_size] at h; exact h
  have e : chB.data.toList.map UInt8.toNat = chars := by decide
  have e2 : (chB[k]'h).toNat = chars.getD k 0 := by
    rw [← e, List.getD_eq_getElem?_getD, List.getElem?_map]
    have : chB.data.toList[k]? = some (chB[k]'h) := by
      rw [List.getElem?_eq_getElem (by simpa using h)]; rfl
    rw [this]; rfl
  have h3 := allB_out (n := 64) (p := fun k => decide (chars.getD k 0 < 128)) (by decide +kernel) k hk
  exact ⟨e2, by simpa using h3⟩
theorem next_yes (X : World) (k : Nat) (hk : k < 64) (ty : TypeId) :
    (Instr.next (.pointer (some ⟨X.heap.size, 0, none⟩)) true ty).run Try.prog (X.iter chB k) = .ok (.tuple #[.bool true, .int .i64 k, .int .i32 (chars.getD k 0 : Nat)]) (X.iter chB (k + 1)) := by
  have h : k < chB.size := by rw [chB_size]; exact hk
  have g := chB_get k h
  rw [run_next_ascii (P := Try.prog) X chB k ty h (by rw [g.1]; exact g.2), g.1]
theorem next_no (X : World) (ty : TypeId) :
    (Instr.next (.pointer (some ⟨X.heap.size, 0, none⟩)) true ty).run Try.prog (X.iter chB 64) = .ok (.tuple #[.bool false]) (X.iter chB 64) :=
  run_next_end (P := Try.prog) X chB 64 ty (by rw [chB_size]; omega)

def base (w : World) (row : Array Value) : World := (w.alloc (.cells (fillRow 0) 52)).alloc (.cells row 52)
section
variable (w : World) (row : Array Value) (k i : Nat)
theorem base_size : (base w row).heap.size = w.heap.size + 1 + 1 := by simp [base]
theorem iter_block : ((base w row).iter chB k).heap[w.heap.size + 1]? = some (.cells row 52 (0, 0)) := by
  unfold World.iter
  rw [Below.heap_alloc _ _ _ (by rw [base_size]; omega)]
  exact heap_alloc2_new w _ _
theorem iter_block0 : ((base w row).iter chB k).heap[w.heap.size]? = some (.cells (fillRow 0) 52 (0, 0)) := by
  unfold World.iter
  rw [Below.heap_alloc _ _ _ (by rw [base_size]; omega)]
  exact heap_alloc2_old w _ _
theorem iter_cell : ((base w row).iter chB k).cell? ⟨w.heap.size + 1, i, none⟩ = row[i]? := cell_of_row _ _ _ _ _ _ (iter_block w row k)
theorem iter_free : ((base w row).iter chB k).frozen? ⟨w.heap.size + 1, i, none⟩ = false := frozen_of_row _ _ _ _ _ (iter_block w row k)
theorem iter_set (v : Value) : ((base w row).iter chB k).setCell ⟨w.heap.size + 1, i, none⟩ v = (base w (row.setIfInBounds i v)).iter chB k := by
  unfold World.iter
  rw [World.setCell_alloc_past]
  case hn => rw [base_size]; omega
  unfold base
  rw [World.setCell_alloc_at]
  simp
theorem iter_below : Below w.heap.size w ((base w row).iter chB k) := by
  unfold World.iter base
  exact (((Below.refl _ _).alloc (Nat.le_refl _) _).alloc (by simp) _).alloc (by simp; omega) _
end
def posOf (w : World) : Nat := match w.heap[w.heap.size - 1]? with
  | some (.stringIter _ p) => p
  | _ => 0
theorem posOf_iter (X : World) (s : ByteArray) (p : Nat) : posOf (X.iter s p) = p := by
  have h : (X.iter s p).heap[(X.iter s p).heap.size - 1]? = some (.stringIter s p) := by
    have := World.iter_heap X s p
    have e : (X.iter s p).heap.size - 1 = X.heap.size := by simp [World.iter]
    rw [e]; exact this
  simp [posOf, h]
theorem tab_step (k : Nat) (hk : k < 64) (b : Nat) : tabAt (k + 1) b = if b = chars.getD k 0 then k else tabAt k b := by
  by_cases h : b = chars.getD k 0
  · rw [if_pos h]
    have := cellOf_char k hk
    rw [← h] at this
    unfold tabAt
    rw [if_pos (by omega)]; exact this
  · rw [if_neg h]
    have hne : cellOf b ≠ k := fun e => h (by rw [← char_cellOf b (by omega), e])
    unfold tabAt
    by_cases hl : cellOf b < k
    · rw [if_pos hl, if_pos (by omega)]
    · rw [if_neg hl, if_neg (by omega)]
theorem tabRow_set (k : Nat) (hk : k < 64) : (tabRow k).setIfInBounds (chars.getD k 0) (.int .u8 k) = tabRow (k + 1) := by
  have e : tabRow (k + 1) = rowOf (fun b => Value.int .u8 ((if b = chars.getD k 0 then k else tabAt k b : Nat) : Int)) 256 := by
    unfold tabRow
    exact rowOf_congr fun b _ => by rw [tab_step k hk b]
  rw [e]
  unfold tabRow
  exact rowOf_set _ _ _ _ _ (by rw [if_pos rfl]) (fun j hj => by rw [if_neg hj])
theorem tabRow_get (k b : Nat) (hb : b < 256) : (tabRow k)[b]? = some (.int .u8 (tabAt k b : Nat)) := rowOf_get _ _ _ hb
theorem chars_lt (k : Nat) (hk : k < 64) : chars.getD k 0 < 256 := by
  have h := allB_out (n := 64) (p := fun k => decide (chars.getD k 0 < 256)) (by decide +kernel) k hk
  simpa using h

theorem below_setRow {B : Nat} {a w : World} (h : Below B a w) {g : Nat} (hg : B ≤ g) (cs : Array Value) : Below B a (w.setRow g cs) :=
  h.trans ⟨rfl, rfl, rfl, by simp, fun k hk => setRow_other w g k cs (by omega)⟩
set_option maxRecDepth 10000 in
attribute [local irreducible] fillRow tabRow base chB in
theorem table_any (w : World) :
    Calls Try.prog 34 #[] w fun e w' => e = .returned (.agg (tabRow 64)) ∧ Below w.heap.size w w' := by
  have hz := zero52
  go_enter Try.func34, Try.ntmps34
  go_wp2
  go_loopw [5] (fun i wr => ∃ k : Nat, k ≤ 256 ∧ i = .int .i64 k ∧ wr = (w.alloc (.cells (fillRow 0) 52)).alloc (.cells (fillRow k) 52)) (fun i _ => 256 - (intOf i).toNat)
  case atStart => exact ⟨0, by omega, rfl, rfl⟩
  case round =>
    obtain ⟨k, hk, rfl, rfl⟩ := hrel
    by_cases hlt : k < 256
    · have hg := fillRow_get k hlt
      have hs := fillRow_size k
      have hset := fillRow_set k
      go_wp2
      go_roundw
      case rel => exact ⟨k + 1, by omega, by go_num, rfl⟩
      case measure => simp [intOf]; omega
    · have : k = 256 := by omega
      subst this
      clear hz
      go_wp2
      go_loopw [] (fun wr => ∃ k : Nat, k ≤ 64 ∧ wr = (base w (tabRow k)).iter chB k) (fun wr => 64 - posOf wr)
      case atStart => exact ⟨0, by omega, by rw [fillRow_done]; unfold base chB; rfl⟩
      case round =>
        obtain ⟨k, hk, rfl⟩ := hrel
        by_cases hlt : k < 64
        · have hn := next_yes (base w (tabRow k)) k hlt
          rw [base_size] at hn
          have c1 := chars_lt k hlt
          have f1 := iter_cell w (tabRow k) (k + 1) (chars.getD k 0)
          rw [tabRow_get _ _ c1] at f1
          have f2 := iter_free w (tabRow k) (k + 1) (chars.getD k 0)
          have f3 := iter_set w (tabRow k) (k + 1) (chars.getD k 0) (.int .u8 k)
          rw [tabRow_set k hlt] at f3
          generalize chars.getD k 0 = b at *
          go_wp2
          go_roundw
          case rel => exact ⟨k + 1, by omega, rfl⟩
          case measure => rw [posOf_iter, posOf_iter]; omega
        · have : k = 64 := by omega
          subst this
          have hn := next_no (base w (tabRow 64))
          rw [base_size] at hn
          have b1 := iter_block w (tabRow 64) 64
          have b0 := iter_block0 w (tabRow 64) 64
          have hb := iter_below w (tabRow 64) 64
          generalize (base w (tabRow 64)).iter chB 64 = W at *
          have B1 := Lib.hid b1
          have B0 := Lib.hid b0
          have HB := Lib.hid hb
          clear b1 b0 hb
          go_wp2_with (first | (refine wpList_load_row rfl 52 (.tmp 1) rfl (w.heap.size + 1) rfl 52 (tabRow 64) (0, 0) _ B1.out Try.underlying52 rfl ?_ ?_; rotate_left) | (refine wpList_store_row rfl 52 (.tmp 0) (.tmp 20) rfl w.heap.size (tabRow 64) rfl rfl 52 (fillRow 0) B0.out ?_ ?_ ?_ ?_; rotate_left 3))
          · refine bodyPost_ret (results_cell_row rfl _ _ w.heap.size 52 (tabRow 64) (0, 0) _ rfl (setRow_heap W _ _ _ _ _ B0.out) Try.underlying52 rfl ?_) rfl ⟨rfl, below_setRow HB.out (Nat.le_refl _) _⟩
            rw [tabRow_size]; kernel_rfl
          · rw [tabRow_size]; kernel_rfl
          · rw [tabRow_size, fillRow_size]
          · exact tabRow_one _
          · rw [tabRow_size]; kernel_rfl
end Go.Proofs.Ytmbaebbhecfpdaa
