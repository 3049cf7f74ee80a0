/- Plain facts on bytes, rows, strings and blocks of memory: shared by all texts of a seat. -/
import Derived.Test.YtiedaongfjcbhaaRows
import Derived.WalkKit
import Derived.WalkSpells
import Derived.WalkLawsBesides
import Derived.BigQuiet
import Derived.Deep.QuietTactic
import Derived.Deep.WholeRow
import Derived.Lib.Hide
namespace Go.Proofs.Ytiedaongfjcbhaa
open Go.RowKit

theorem ret_int {k : IntKind} {a b : Int} (h : a = b) : Ending.returned (.int k a) = .returned (.int k b) := by rw [h]
theorem ret_bool {a b : Bool} (h : a = b) : Ending.returned (.bool a) = .returned (.bool b) := by rw [h]
/-- What holds of all numbers below n, asked one by one. -/
def allB (n : Nat) (p : Nat → Bool) : Bool := (List.range n).all p
theorem allB_out {n : Nat} {p : Nat → Bool} (h : allB n p = true) (x : Nat) (hx : x < n) : p x = true := by
  unfold allB at h; rw [List.all_eq_true] at h; exact h x (List.mem_range.2 hx)
theorem allB_int {n : Nat} {p : Nat → Bool} (h : allB n p = true) (x : Int) (h0 : 0 ≤ x) (hx : x < n) : p x.toNat = true :=
  allB_out h _ (by omega)
theorem allB2_out {n m : Nat} {p : Nat → Nat → Bool} (h : allB n (fun x => allB m (p x)) = true) (x y : Nat) (hx : x < n) (hy : y < m) : p x y = true :=
  allB_out (allB_out h x hx) y hy
theorem nat_lor_lt {a b : Nat} (ha : a < 256) (hb : b < 256) : a ||| b < 256 := Nat.or_lt_two_pow (n := 8) ha hb
theorem nat_xor_lt {a b : Nat} (ha : a < 256) (hb : b < 256) : a ^^^ b < 256 := Nat.xor_lt_two_pow (n := 8) ha hb
theorem xor_bd (a b : Int) (h1 : 0 ≤ a) (h2 : a < 256) (h3 : 0 ≤ b) (h4 : b < 256) : 0 ≤ bits .xor .u8 a b ∧ bits .xor .u8 a b < 256 := by
  rw [u8_xor a b h1 h2 h3 h4]; have := nat_xor_lt (a := a.toNat) (b := b.toNat) (by omega) (by omega); omega
theorem andNot_bd (a b : Int) (h1 : 0 ≤ a) (h2 : a < 256) (h3 : 0 ≤ b) (h4 : b < 256) : 0 ≤ bits .andNot .u8 a b ∧ bits .andNot .u8 a b < 256 := by
  rw [u8_andNot a b h1 h2 h3 h4]; have := Nat.and_le_left (n := a.toNat) (m := 255 - b.toNat); omega
theorem or_bd (a b : Int) (h1 : 0 ≤ a) (h2 : a < 256) (h3 : 0 ≤ b) (h4 : b < 256) : 0 ≤ bits .or .u8 a b ∧ bits .or .u8 a b < 256 := by
  rw [u8_or a b h1 h2 h3 h4]; have := nat_lor_lt (a := a.toNat) (b := b.toNat) (by omega) (by omega); omega
def rowOf (f : Nat → Value) (n : Nat) : Array Value := ((List.range n).map f).toArray
theorem rowOf_size (f : Nat → Value) (n : Nat) : (rowOf f n).size = n := by simp [rowOf]
theorem rowOf_get (f : Nat → Value) (n j : Nat) (h : j < n) : (rowOf f n)[j]? = some (f j) := by simp [rowOf, h]
theorem rowOf_set (f g : Nat → Value) (n k : Nat) (v : Value) (hv : g k = v) (ho : ∀ j, j ≠ k → g j = f j) :
    (rowOf f n).setIfInBounds k v = rowOf g n := by
  apply Array.ext'
  unfold rowOf
  rw [Array.toList_setIfInBounds]
  simp only
  apply List.ext_getElem?
  intro j
  rw [List.getElem?_set]
  by_cases h : k = j
  · subst h
    by_cases hk : k < n <;> simp [hk, hv]
  · simp only [if_neg h, List.getElem?_map]
    rcases Nat.lt_or_ge j n with hj | hj
    · simp [hj, ho j (fun e => h e.symm)]
    · simp [hj]
theorem rowOf_congr {f g : Nat → Value} {n : Nat} (h : ∀ j, j < n → f j = g j) : rowOf f n = rowOf g n := by
  unfold rowOf
  congr 1
  exact List.map_congr_left fun b hb => h b (List.mem_range.1 hb)
theorem rowOf_one (f : Nat → Value) (n : Nat) (h : ∀ j, (f j).oneCell' = true) : (rowOf f n).all (·.oneCell') = true := by
  simp [rowOf, h]
def posOf (w : World) : Nat := match w.heap[w.heap.size - 1]? with
  | some (.stringIter _ p) => p
  | _ => 0
theorem posOf_iter (X : World) (s : ByteArray) (p : Nat) : posOf (X.iter s p) = p := by
  have h : (X.iter s p).heap[(X.iter s p).heap.size - 1]? = some (.stringIter s p) := by
    have := World.iter_heap X s p
    have e : (X.iter s p).heap.size - 1 = X.heap.size := by simp [World.iter]
    rw [e]; exact this
  simp [posOf, h]
theorem below_setRow {B : Nat} {a w : World} (h : Below B a w) {g : Nat} (hg : B ≤ g) (cs : Array Value) : Below B a (w.setRow g cs) :=
  h.trans ⟨rfl, rfl, rfl, by simp, fun k hk => setRow_other w g k cs (by omega)⟩
theorem setRow_get {w : World} {g : Nat} {old cs : Array Value} {t : TypeId} (i : Nat) (hg : w.heap[g]? = some (.cells old t (0, 0))) : (w.setRow g cs).cell? ⟨g, i, none⟩ = cs[i]? :=
  cell_of_row _ _ _ _ _ _ (setRow_heap w g old cs t _ hg)
theorem ret_two {k1 k2 : IntKind} {a b c d : Int} (h : a = b) (h2 : c = d) : Ending.returned (.tuple #[.int k1 a, .int k2 c]) = .returned (.tuple #[.int k1 b, .int k2 d]) := by rw [h, h2]
/-- A slice that reads as a list of cells. -/
def Seq (w : World) (B : Nat) (A : Option Addr) (xs : List Int) : Prop :=
  0 < xs.length → ∃ b o : Nat, A = some ⟨b, o, none⟩ ∧ b < B ∧ ∀ j (h : j < xs.length), w.cell? ⟨b, o + j, none⟩ = some (.int .u8 xs[j])
theorem Seq.nil {w : World} {B : Nat} {A : Option Addr} : Seq w B A [] := fun h => absurd h (by simp)
theorem Seq.keep {w w' : World} {B : Nat} {A : Option Addr} {xs : List Int} (h : Seq w B A xs) (hb : Below B w w') : Seq w' B A xs := fun hl => by
  obtain ⟨b, o, e, hB, hc⟩ := h hl
  exact ⟨b, o, e, hB, fun j hj => (hb.cell (p := ⟨b, o + j, none⟩) hB).trans (hc j hj)⟩
theorem Seq.more {w : World} {B B' : Nat} {A : Option Addr} {xs : List Int} (h : Seq w B A xs) (hB : B ≤ B') : Seq w B' A xs := fun hl => by
  obtain ⟨b, o, e, hb, hc⟩ := h hl
  exact ⟨b, o, e, by omega, hc⟩
theorem below_dN {B n : Nat} {a w : World} (h : Below B a w) : Below B a (w.drewN n) := ⟨h.os, h.tape, h.output, h.size, h.block⟩
theorem take_same {xs ys : List Int} {k : Nat} (hx : k < xs.length) (hy : k < ys.length) : (xs.take (k + 1) = ys.take (k + 1)) ↔ (xs.take k = ys.take k ∧ xs[k] = ys[k]) := by
  rw [List.take_succ_eq_append_getElem hx, List.take_succ_eq_append_getElem hy]
  constructor
  · intro h
    have := List.append_inj' h rfl
    exact ⟨this.1, by simpa using this.2⟩
  · rintro ⟨h1, h2⟩; rw [h1, h2]
theorem ne_of_len {xs ys : List Int} (h : ¬ xs.length = ys.length) : (false : Bool) = decide (xs = ys) := by
  simp; intro e; exact h (by rw [e])
/-- A string out of numbers. -/
def strOf (l : List Int) : ByteArray := ⟨(l.map fun n => UInt8.ofNat n.toNat).toArray⟩
theorem strOf_fold (l : List Int) (r : ByteArray) : l.foldl (fun r n => r.push (UInt8.ofNat n.toNat)) r = ⟨(r.data.toList ++ l.map fun n => UInt8.ofNat n.toNat).toArray⟩ := by
  induction l generalizing r with
  | nil => simp
  | cons a l ih => rw [List.foldl_cons, ih]; simp [ByteArray.push]
theorem strOf_eq (l : List Int) : l.foldl (fun r n => r.push (UInt8.ofNat n.toNat)) ByteArray.empty = strOf l := by
  rw [strOf_fold]; rfl
/-- A block that is known whole. -/
def Blk (w : World) (g : Nat) (t : TypeId) (row : Array Value) : Prop := w.heap[g]? = some (.cells row t (0, 0))
section
variable {w w' : World} {g B : Nat} {t : TypeId} {row : Array Value}
theorem Blk.lt (h : Blk w g t row) : g < w.heap.size := by
  rcases Nat.lt_or_ge g w.heap.size with hl | hl
  · exact hl
  · unfold Blk at h; rw [Array.getElem?_eq_none hl] at h; cases h
theorem Blk.cell (h : Blk w g t row) (i : Nat) : w.cell? ⟨g, i, none⟩ = row[i]? := cell_of_row _ _ _ _ _ _ h
theorem Blk.free (h : Blk w g t row) (i : Nat) : w.frozen? ⟨g, i, none⟩ = false := frozen_of_row _ _ _ _ _ h
theorem Blk.set (h : Blk w g t row) (i : Nat) (v : Value) : Blk (w.setCell ⟨g, i, none⟩ v) g t (row.setIfInBounds i v) := heap_setCell_same w g i row t v h
theorem Blk.keep (h : Blk w g t row) (hb : Below B w w') (hg : g < B) : Blk w' g t row := by unfold Blk; rw [hb.block g hg]; exact h
theorem Blk.new (w : World) (row : Array Value) (t : TypeId) : Blk (w.alloc (.cells row t)) w.heap.size t row := Go.heap_alloc_new w _
end
theorem made_row (z : Value) (n : Nat) : madeCells #[z] n = rowOf (fun _ => z) n := by
  apply Array.ext'
  rw [toList_madeCells_one]
  simp [rowOf, List.map_const']
theorem conv_row (W : World) (g n cap : Nat) (f : Nat → Int) (t : TypeId) (h : Blk W g t (rowOf (fun i => .int .u8 (f i)) n)) :
    (convert 50 9 (.slice (some ⟨g, 0, none⟩) n cap)).run Try.prog W = .ok (.string (strOf ((List.range n).map f))) W := by
  rw [run_convert_bytes_string W _ _ _ _ _ _ Try.underlying50 Try.underlying5 Try.underlying9, run_bytesToString W _ n cap ((List.range n).map f), strOf_eq]
  have hl := run_loadCells_list (P := Try.prog) W ⟨g, 0, none⟩ (((List.range n).map f).map (Value.int .u8)) (fun j v hv => by
    have hadd : (⟨g, 0, none⟩ : Addr).add j = ⟨g, j, none⟩ := by unfold Addr.add; split <;> simp_all
    rw [hadd, h.cell j]
    simpa [rowOf] using hv)
  simpa using hl
theorem info_u8 : (Try.prog.info? 5).map (fun i => (i.zero, i.size, i.bytes)) = some (some (.int .u8 0), 1, 1) := by kernel_rfl
theorem info_cell : (Try.prog.info? 64).map (fun i => (i.zero, i.size, i.bytes)) = some (some (.int .u8 0), 1, 1) := by kernel_rfl
theorem make_u8 (w : World) (n : Nat) (hn : n < 2 ^ 47) :
    (Instr.makeSlice 50 (.int .i64 n) (.int .i64 n)).run Try.prog w = .ok (.slice (some ⟨w.heap.size, 0, none⟩) n n) (w.alloc (.cells (rowOf (fun _ => .int .u8 0) n) 5)) := by
  obtain ⟨i0, hi, hz0, hz1, hz2⟩ := info_parts info_u8
  have := run_make (P := Try.prog) w 50 5 i0 (.int .u8 0) Try.underlying50 hi hz0 .i64 .i64 n n (by omega) (by omega) (by rw [hz2]; omega) (by omega)
  rw [this, hz1, ← made_row]; simp [Value.cells]
theorem make_cell (w : World) (n : Nat) (hn : n < 2 ^ 47) :
    (Instr.makeSlice 39 (.int .i64 n) (.int .i64 n)).run Try.prog w = .ok (.slice (some ⟨w.heap.size, 0, none⟩) n n) (w.alloc (.cells (rowOf (fun _ => .int .u8 0) n) 64)) := by
  obtain ⟨i0, hi, hz0, hz1, hz2⟩ := info_parts info_cell
  have := run_make (P := Try.prog) w 39 64 i0 (.int .u8 0) Try.underlying39 hi hz0 .i64 .i64 n n (by omega) (by omega) (by rw [hz2]; omega) (by omega)
  rw [this, hz1, ← made_row]; simp [Value.cells]
/-- The bytes of a string, as numbers. -/
def bytes (s : ByteArray) : List Nat := s.data.toList.map UInt8.toNat
theorem bytes_len (s : ByteArray) : (bytes s).length = s.size := by simp [bytes]
theorem bytes_at (s : ByteArray) (i : Nat) (h : i < s.size) : (bytes s)[i]? = some (s[i]'h).toNat := by
  unfold bytes; rw [List.getElem?_map, List.getElem?_eq_getElem (by simpa using h)]; rfl
theorem bytes_lt (s : ByteArray) (b : Nat) (h : b ∈ bytes s) : b < 256 := by
  unfold bytes at h; rw [List.mem_map] at h; obtain ⟨u, _, rfl⟩ := h; exact u.toNat_lt
theorem tw_stop {l : List Nat} {p : Nat → Bool} : ∀ {j : Nat}, (∀ i b, i < j → l[i]? = some b → p b = true) → (∀ b, l[j]? = some b → p b = false) → j ≤ l.length → (l.takeWhile p).length = j := by
  induction l with
  | nil => intro j _ _ h; simp at h; subst h; rfl
  | cons a l ih =>
    intro j h1 h2 h3
    cases j with
    | zero => have := h2 a rfl; simp [this]
    | succ j =>
      have ha := h1 0 a (by omega) rfl
      rw [List.takeWhile_cons, ha]
      simp only [if_true, List.length_cons]
      rw [ih (fun i b hi hb => h1 (i + 1) b (by omega) hb) (fun b hb => h2 b hb) (by simpa using h3)]
theorem tw_all {l : List Nat} {p : Nat → Bool} (h : ∀ i b, i < l.length → l[i]? = some b → p b = true) : l.takeWhile p = l := by
  have := tw_stop (l := l) (p := p) (j := l.length) (fun i b hi hb => h i b hi hb) (fun b hb => by simp at hb) (Nat.le_refl _)
  exact (List.takeWhile_sublist (l := l) p).eq_of_length this
theorem Seq.of_blk {w : World} {g n : Nat} {t : TypeId} {f : Nat → Int} {xs : List Int} (h : Blk w g t (rowOf (fun i => .int .u8 (f i)) n)) (hx : (List.range n).map f = xs) : Seq w w.heap.size (some ⟨g, 0, none⟩) xs := fun hl => by
  refine ⟨g, 0, rfl, h.lt, fun j hj => ?_⟩
  subst hx
  simp only [List.length_map, List.length_range] at hj
  rw [Nat.zero_add, h.cell j, rowOf_get _ _ _ hj]
  simp
theorem toList_bytes (s : ByteArray) : bytes s = s.toList.map UInt8.toNat := by
  unfold bytes; rw [ByteArray.toList_eq]
theorem is48 {s : ByteArray} (h : (s.toList == [48]) = true) : bytes s = [48] := by
  rw [toList_bytes, eq_of_beq h]; rfl
theorem not48 {s : ByteArray} (h : (s.toList == [48]) = false) : ¬ bytes s = [48] := by
  intro e
  rw [toList_bytes] at e
  have h2 : s.toList = [48] := by
    cases hs : s.toList with
    | nil => rw [hs] at e; simp at e
    | cons a r =>
      rw [hs] at e
      simp only [List.map_cons, List.cons.injEq, List.map_eq_nil_iff] at e
      rw [e.2, show a = 48 from UInt8.toNat_inj.1 e.1]
  rw [h2] at h; simp at h
theorem isNil {s : ByteArray} (h : s.toList.isEmpty = true) : bytes s = [] := by
  rw [toList_bytes, List.isEmpty_iff.1 h]; rfl
theorem notNil {s : ByteArray} (h : s.toList.isEmpty = false) : ¬ bytes s = [] := by
  rw [toList_bytes]; intro e; rw [List.map_eq_nil_iff.1 e] at h; simp at h
/-- The rune at a byte: the byte itself, or something greater than 127. -/
theorem rune_of (s : ByteArray) (j : Nat) (h : j < s.size) : ∃ x : Nat, ((bytes s)[j]? = some x ∧ x < 128 ∧ (Utf8.decode s j) = (x, 1)) ∨ (∃ y, (bytes s)[j]? = some y ∧ 128 ≤ y ∧ (Utf8.decode s j).1 = x ∧ 128 ≤ x ∧ x ≤ 2147483647) := by
  rcases Nat.lt_or_ge (s[j]'h).toNat 128 with g | g
  · exact ⟨_, Or.inl ⟨bytes_at s j h, g, decode_ascii s j h g⟩⟩
  · exact ⟨_, Or.inr ⟨_, bytes_at s j h, g, rfl, (decode_high s j h g).1, decode_le s j⟩⟩
/-- string(b), b a slice of the call's own. -/
theorem conv_own (W : World) (B g n cap : Nat) (l : List Int) (hl : l.length = n) (h : W.ownsRow B 5 1 (.slice (some ⟨g, 0, none⟩) n cap) n (l.map (Value.int .u8))) :
    (convert 50 9 (.slice (some ⟨g, 0, none⟩) n cap)).run Try.prog W = .ok (.string (strOf l)) W := by
  rw [run_convert_bytes_string W _ _ _ _ _ _ Try.underlying50 Try.underlying5 Try.underlying9, run_bytesToString W _ n cap l, strOf_eq]
  have hl2 := run_loadCells_list (P := Try.prog) W ⟨g, 0, none⟩ (l.map (Value.int .u8)) (fun j v hv => by
    have hadd : (⟨g, 0, none⟩ : Addr).add j = ⟨g, j, none⟩ := by unfold Addr.add; split <;> simp_all
    have hj : j < n := by
      rcases Nat.lt_or_ge j n with g | g
      · exact g
      · rw [List.getElem?_eq_none (by simpa [hl] using g)] at hv; cases hv
    rw [hadd, h.cellAt j (by omega)]; exact hv)
  rw [← hl]; simpa using hl2
theorem below_next {w a b : World} (h : Below w.heap.size w a) (k : Below a.heap.size a b) : Below w.heap.size w b := h.trans (k.mono h.size)
theorem Seq.lit (w : World) (t : TypeId) (xs : List Int) : Seq (w.alloc (.cells (xs.map (Value.int .u8)).toArray t)) (w.heap.size + 1) (some ⟨w.heap.size, 0, none⟩) xs := fun hl => by
  refine ⟨w.heap.size, 0, rfl, by omega, fun j hj => ?_⟩
  rw [cell_of_row _ _ _ _ _ _ (Go.heap_alloc_new _ _)]
  simp [hj]
theorem own_slice {w : World} {B : Nat} {t : TypeId} {v : Value} {n : Nat} {xs : List Int} (h : w.ownsRow B t 1 v n (xs.map (Value.int .u8))) :
    ∃ A k, v = .slice A n k ∧ xs.length = n ∧ Seq w w.heap.size A xs := by
  obtain ⟨hlen, hform⟩ := id h
  have hl : xs.length = n := by simpa using hlen
  rcases hform with ⟨rfl, hn0⟩ | ⟨g, cap, cur, rfl, hg, hblk, hcap, hmax, hsz, htk⟩
  · subst hn0
    have : xs = [] := List.eq_nil_of_length_eq_zero hl
    subst this
    exact ⟨_, _, rfl, rfl, Seq.nil⟩
  · refine ⟨_, _, rfl, hl, fun _ => ⟨g, 0, rfl, ?_, fun j hj => ?_⟩⟩
    · exact Blk.lt hblk
    · rw [Nat.zero_add, h.cellAt j (by omega)]
      simp [hj]
/-- A call returns a slice that reads as l. -/
def SliceEnd (w : World) (l : List Int) (e : Ending) (w' : World) : Prop :=
  ∃ A k, e = .returned (.slice A l.length k) ∧ Seq w' w'.heap.size A l ∧ Below w.heap.size w w'
theorem strOf_size (l : List Int) : (strOf l).size = l.length := by simp [strOf, ByteArray.size]
theorem strOf_empty (l : List Int) : (strOf l).toList.isEmpty = l.isEmpty := by
  rw [ByteArray.toList_eq]; cases l <;> simp [strOf]
end Go.Proofs.Ytiedaongfjcbhaa
