/- Merged by program: Base Inv Laid Kp Gph -/
import Derived.Test.YtpkdlljefkbmpaaRows
import Derived.WalkKit
import Derived.WalkSpells
import Derived.WalkLawsBesides
import Derived.BigQuiet
import Derived.Deep.QuietTactic
import Derived.Deep.WholeRow
import Derived.Lib.Hide
import Derived.RegionTactic
import Derived.Test.YtpkdlljefkbmpaaShelf
import Derived.WalkSmall
import Derived.Lib.AppendIntMem
import Derived.Lib.SmallJoins

/-! Plain facts on bytes, rows, strings and blocks of memory: shared by all texts of a seat. -/
namespace Go.Proofs.Ytpkdlljefkbmpaa
open Go.RowKit

theorem ret_int {k : IntKind} {a b : Int} (h : a = b) : Ending.returned (.int k a) = .returned (.int k b) := by rw [h]
theorem ret_bool {a b : Bool} (h : a = b) : Ending.returned (.bool a) = .returned (.bool b) := by rw [h]
/-- What holds of all numbers below n, asked one by one. -/
def allB (n : Nat) (p : Nat → Bool) : Bool := (List.range n).all p
theorem allB_out {n : Nat} {p : Nat → Bool} (h : allB n p = true) (x : Nat) (hx : x < n) : p x = true := by
  unfold allB at h; rw [List.all_eq_true] at h; exact h x (List.mem_range.2 hx)
theorem allB_int {n : Nat} {p : Nat → Bool} (h : allB n p = true) (x : Int) (h0 : 0 ≤ x) (hx : x < n) : p x.toNat = true :=
  allB_out h _ (by omega)
theorem allB2_out {n m : Nat} {p : Nat → Nat → Bool} (h : allB n (fun x => allB m (p x)) = true) (x y : Nat) (hx : x < n) (hy : y < m) : p x y = true :=
  allB_out (allB_out h x hx) y hy
theorem nat_lor_lt {a b : Nat} (ha : a < 256) (hb : b < 256) : a ||| b < 256 := Nat.or_lt_two_pow (n := 8) ha hb
theorem nat_xor_lt {a b : Nat} (ha : a < 256) (hb : b < 256) : a ^^^ b < 256 := Nat.xor_lt_two_pow (n := 8) ha hb
theorem xor_bd (a b : Int) (h1 : 0 ≤ a) (h2 : a < 256) (h3 : 0 ≤ b) (h4 : b < 256) : 0 ≤ bits .xor .u8 a b ∧ bits .xor .u8 a b < 256 := by
  rw [u8_xor a b h1 h2 h3 h4]; have := nat_xor_lt (a := a.toNat) (b := b.toNat) (by omega) (by omega); omega
theorem andNot_bd (a b : Int) (h1 : 0 ≤ a) (h2 : a < 256) (h3 : 0 ≤ b) (h4 : b < 256) : 0 ≤ bits .andNot .u8 a b ∧ bits .andNot .u8 a b < 256 := by
  rw [u8_andNot a b h1 h2 h3 h4]; have := Nat.and_le_left (n := a.toNat) (m := 255 - b.toNat); omega
theorem or_bd (a b : Int) (h1 : 0 ≤ a) (h2 : a < 256) (h3 : 0 ≤ b) (h4 : b < 256) : 0 ≤ bits .or .u8 a b ∧ bits .or .u8 a b < 256 := by
  rw [u8_or a b h1 h2 h3 h4]; have := nat_lor_lt (a := a.toNat) (b := b.toNat) (by omega) (by omega); omega
def rowOf (f : Nat → Value) (n : Nat) : Array Value := ((List.range n).map f).toArray
theorem rowOf_size (f : Nat → Value) (n : Nat) : (rowOf f n).size = n := by simp [rowOf]
theorem rowOf_get (f : Nat → Value) (n j : Nat) (h : j < n) : (rowOf f n)[j]? = some (f j) := by simp [rowOf, h]
theorem rowOf_set (f g : Nat → Value) (n k : Nat) (v : Value) (hv : g k = v) (ho : ∀ j, j ≠ k → g j = f j) :
    (rowOf f n).setIfInBounds k v = rowOf g n := by
  apply Array.ext'
  unfold rowOf
  rw [Array.toList_setIfInBounds]
  simp only
  apply List.ext_getElem?
  intro j
  rw [List.getElem?_set]
  by_cases h : k = j
  · subst h
    by_cases hk : k < n <;> simp [hk, hv]
  · simp only [if_neg h, List.getElem?_map]
    rcases Nat.lt_or_ge j n with hj | hj
    · simp [hj, ho j (fun e => h e.symm)]
    · simp [hj]
theorem rowOf_congr {f g : Nat → Value} {n : Nat} (h : ∀ j, j < n → f j = g j) : rowOf f n = rowOf g n := by
  unfold rowOf
  congr 1
  exact List.map_congr_left fun b hb => h b (List.mem_range.1 hb)
theorem rowOf_one (f : Nat → Value) (n : Nat) (h : ∀ j, (f j).oneCell' = true) : (rowOf f n).all (·.oneCell') = true := by
  simp [rowOf, h]
def posOf (w : World) : Nat := match w.heap[w.heap.size - 1]? with
  | some (.stringIter _ p) => p
  | _ => 0
theorem posOf_iter (X : World) (s : ByteArray) (p : Nat) : posOf (X.iter s p) = p := by
  have h : (X.iter s p).heap[(X.iter s p).heap.size - 1]? = some (.stringIter s p) := by
    have := World.iter_heap X s p
    have e : (X.iter s p).heap.size - 1 = X.heap.size := by simp [World.iter]
    rw [e]; exact this
  simp [posOf, h]
theorem below_setRow {B : Nat} {a w : World} (h : Below B a w) {g : Nat} (hg : B ≤ g) (cs : Array Value) : Below B a (w.setRow g cs) :=
  h.trans ⟨rfl, rfl, rfl, by simp, fun k hk => setRow_other w g k cs (by omega)⟩
theorem setRow_get {w : World} {g : Nat} {old cs : Array Value} {t : TypeId} (i : Nat) (hg : w.heap[g]? = some (.cells old t (0, 0))) : (w.setRow g cs).cell? ⟨g, i, none⟩ = cs[i]? :=
  cell_of_row _ _ _ _ _ _ (setRow_heap w g old cs t _ hg)
theorem ret_two {k1 k2 : IntKind} {a b c d : Int} (h : a = b) (h2 : c = d) : Ending.returned (.tuple #[.int k1 a, .int k2 c]) = .returned (.tuple #[.int k1 b, .int k2 d]) := by rw [h, h2]
/-- A slice that reads as a list of cells. -/
def Seq (w : World) (B : Nat) (A : Option Addr) (xs : List Int) : Prop :=
  0 < xs.length → ∃ b o : Nat, A = some ⟨b, o, none⟩ ∧ b < B ∧ ∀ j (h : j < xs.length), w.cell? ⟨b, o + j, none⟩ = some (.int .u8 xs[j])
theorem Seq.nil {w : World} {B : Nat} {A : Option Addr} : Seq w B A [] := fun h => absurd h (by simp)
theorem Seq.keep {w w' : World} {B : Nat} {A : Option Addr} {xs : List Int} (h : Seq w B A xs) (hb : Below B w w') : Seq w' B A xs := fun hl => by
  obtain ⟨b, o, e, hB, hc⟩ := h hl
  exact ⟨b, o, e, hB, fun j hj => (hb.cell (p := ⟨b, o + j, none⟩) hB).trans (hc j hj)⟩
theorem Seq.more {w : World} {B B' : Nat} {A : Option Addr} {xs : List Int} (h : Seq w B A xs) (hB : B ≤ B') : Seq w B' A xs := fun hl => by
  obtain ⟨b, o, e, hb, hc⟩ := h hl
  exact ⟨b, o, e, by omega, hc⟩
theorem below_dN {B n : Nat} {a w : World} (h : Below B a w) : Below B a (w.drewN n) := ⟨h.os, h.tape, h.output, h.size, h.block⟩
theorem take_same {xs ys : List Int} {k : Nat} (hx : k < xs.length) (hy : k < ys.length) : (xs.take (k + 1) = ys.take (k + 1)) ↔ (xs.take k = ys.take k ∧ xs[k] = ys[k]) := by
  rw [List.take_succ_eq_append_getElem hx, List.take_succ_eq_append_getElem hy]
  constructor
  · intro h
    have := List.append_inj' h rfl
    exact ⟨this.1, by simpa using this.2⟩
  · rintro ⟨h1, h2⟩; rw [h1, h2]
theorem ne_of_len {xs ys : List Int} (h : ¬ xs.length = ys.length) : (false : Bool) = decide (xs = ys) := by
  simp; intro e; exact h (by rw [e])
/-- A string out of numbers. -/
def strOf (l : List Int) : ByteArray := ⟨(l.map fun n => UInt8.ofNat n.toNat).toArray⟩
theorem strOf_fold (l : List Int) (r : ByteArray) : l.foldl (fun r n => r.push (UInt8.ofNat n.toNat)) r = ⟨(r.data.toList ++ l.map fun n => UInt8.ofNat n.toNat).toArray⟩ := by
  induction l generalizing r with
  | nil => simp
  | cons a l ih => rw [List.foldl_cons, ih]; simp [ByteArray.push]
theorem strOf_eq (l : List Int) : l.foldl (fun r n => r.push (UInt8.ofNat n.toNat)) ByteArray.empty = strOf l := by
  rw [strOf_fold]; rfl
/-- A block that is known whole. -/
def Blk (w : World) (g : Nat) (t : TypeId) (row : Array Value) : Prop := w.heap[g]? = some (.cells row t (0, 0))
section
variable {w w' : World} {g B : Nat} {t : TypeId} {row : Array Value}
theorem Blk.lt (h : Blk w g t row) : g < w.heap.size := by
  rcases Nat.lt_or_ge g w.heap.size with hl | hl
  · exact hl
  · unfold Blk at h; rw [Array.getElem?_eq_none hl] at h; cases h
theorem Blk.cell (h : Blk w g t row) (i : Nat) : w.cell? ⟨g, i, none⟩ = row[i]? := cell_of_row _ _ _ _ _ _ h
theorem Blk.free (h : Blk w g t row) (i : Nat) : w.frozen? ⟨g, i, none⟩ = false := frozen_of_row _ _ _ _ _ h
theorem Blk.set (h : Blk w g t row) (i : Nat) (v : Value) : Blk (w.setCell ⟨g, i, none⟩ v) g t (row.setIfInBounds i v) := heap_setCell_same w g i row t v h
theorem Blk.keep (h : Blk w g t row) (hb : Below B w w') (hg : g < B) : Blk w' g t row := by unfold Blk; rw [hb.block g hg]; exact h
theorem Blk.new (w : World) (row : Array Value) (t : TypeId) : Blk (w.alloc (.cells row t)) w.heap.size t row := Go.heap_alloc_new w _
end
theorem made_row (z : Value) (n : Nat) : madeCells #[z] n = rowOf (fun _ => z) n := by
  apply Array.ext'
  rw [toList_madeCells_one]
  simp [rowOf, List.map_const']
theorem conv_row (W : World) (g n cap : Nat) (f : Nat → Int) (t : TypeId) (h : Blk W g t (rowOf (fun i => .int .u8 (f i)) n)) :
    (convert 25 9 (.slice (some ⟨g, 0, none⟩) n cap)).run Try.prog W = .ok (.string (strOf ((List.range n).map f))) W := by
  rw [run_convert_bytes_string W _ _ _ _ _ _ Try.underlying25 Try.underlying5 Try.underlying9, run_bytesToString W _ n cap ((List.range n).map f), strOf_eq]
  have hl := run_loadCells_list (P := Try.prog) W ⟨g, 0, none⟩ (((List.range n).map f).map (Value.int .u8)) (fun j v hv => by
    have hadd : (⟨g, 0, none⟩ : Addr).add j = ⟨g, j, none⟩ := by unfold Addr.add; split <;> simp_all
    rw [hadd, h.cell j]
    simpa [rowOf] using hv)
  simpa using hl
theorem info_u8 : (Try.prog.info? 5).map (fun i => (i.zero, i.size, i.bytes)) = some (some (.int .u8 0), 1, 1) := by kernel_rfl
theorem info_cell : (Try.prog.info? 96).map (fun i => (i.zero, i.size, i.bytes)) = some (some (.int .u8 0), 1, 1) := by kernel_rfl
theorem make_u8 (w : World) (n : Nat) (hn : n < 2 ^ 47) :
    (Instr.makeSlice 25 (.int .i64 n) (.int .i64 n)).run Try.prog w = .ok (.slice (some ⟨w.heap.size, 0, none⟩) n n) (w.alloc (.cells (rowOf (fun _ => .int .u8 0) n) 5)) := by
  obtain ⟨i0, hi, hz0, hz1, hz2⟩ := info_parts info_u8
  have := run_make (P := Try.prog) w 25 5 i0 (.int .u8 0) Try.underlying25 hi hz0 .i64 .i64 n n (by omega) (by omega) (by rw [hz2]; omega) (by omega)
  rw [this, hz1, ← made_row]; simp [Value.cells]
theorem make_cell (w : World) (n : Nat) (hn : n < 2 ^ 47) :
    (Instr.makeSlice 32 (.int .i64 n) (.int .i64 n)).run Try.prog w = .ok (.slice (some ⟨w.heap.size, 0, none⟩) n n) (w.alloc (.cells (rowOf (fun _ => .int .u8 0) n) 96)) := by
  obtain ⟨i0, hi, hz0, hz1, hz2⟩ := info_parts info_cell
  have := run_make (P := Try.prog) w 32 96 i0 (.int .u8 0) Try.underlying32 hi hz0 .i64 .i64 n n (by omega) (by omega) (by rw [hz2]; omega) (by omega)
  rw [this, hz1, ← made_row]; simp [Value.cells]
/-- The bytes of a string, as numbers. -/
def bytes (s : ByteArray) : List Nat := s.data.toList.map UInt8.toNat
theorem bytes_len (s : ByteArray) : (bytes s).length = s.size := by simp [bytes]
theorem bytes_at (s : ByteArray) (i : Nat) (h : i < s.size) : (bytes s)[i]? = some (s[i]'h).toNat := by
  unfold bytes; rw [List.getElem?_map, List.getElem?_eq_getElem (by simpa using h)]; rfl
theorem bytes_lt (s : ByteArray) (b : Nat) (h : b ∈ bytes s) : b < 256 := by
  unfold bytes at h; rw [List.mem_map] at h; obtain ⟨u, _, rfl⟩ := h; exact u.toNat_lt
theorem tw_stop {l : List Nat} {p : Nat → Bool} : ∀ {j : Nat}, (∀ i b, i < j → l[i]? = some b → p b = true) → (∀ b, l[j]? = some b → p b = false) → j ≤ l.length → (l.takeWhile p).length = j := by
  induction l with
  | nil => intro j _ _ h; simp at h; subst h; rfl
  | cons a l ih =>
    intro j h1 h2 h3
    cases j with
    | zero => have := h2 a rfl; simp [this]
    | succ j =>
      have ha := h1 0 a (by omega) rfl
      rw [List.takeWhile_cons, ha]
      simp only [if_true, List.length_cons]
      rw [ih (fun i b hi hb => h1 (i + 1) b (by omega) hb) (fun b hb => h2 b hb) (by simpa using h3)]
theorem tw_all {l : List Nat} {p : Nat → Bool} (h : ∀ i b, i < l.length → l[i]? = some b → p b = true) : l.takeWhile p = l := by
  have := tw_stop (l := l) (p := p) (j := l.length) (fun i b hi hb => h i b hi hb) (fun b hb => by simp at hb) (Nat.le_refl _)
  exact (List.takeWhile_sublist (l := l) p).eq_of_length this
theorem Seq.of_blk {w : World} {g n : Nat} {t : TypeId} {f : Nat → Int} {xs : List Int} (h : Blk w g t (rowOf (fun i => .int .u8 (f i)) n)) (hx : (List.range n).map f = xs) : Seq w w.heap.size (some ⟨g, 0, none⟩) xs := fun hl => by
  refine ⟨g, 0, rfl, h.lt, fun j hj => ?_⟩
  subst hx
  simp only [List.length_map, List.length_range] at hj
  rw [Nat.zero_add, h.cell j, rowOf_get _ _ _ hj]
  simp
theorem toList_bytes (s : ByteArray) : bytes s = s.toList.map UInt8.toNat := by
  unfold bytes; rw [ByteArray.toList_eq]
theorem is48 {s : ByteArray} (h : (s.toList == [48]) = true) : bytes s = [48] := by
  rw [toList_bytes, eq_of_beq h]; rfl
theorem not48 {s : ByteArray} (h : (s.toList == [48]) = false) : ¬ bytes s = [48] := by
  intro e
  rw [toList_bytes] at e
  have h2 : s.toList = [48] := by
    cases hs : s.toList with
    | nil => rw [hs] at e; simp at e
    | cons a r =>
      rw [hs] at e
      simp only [List.map_cons, List.cons.injEq, List.map_eq_nil_iff] at e
      rw [e.2, show a = 48 from UInt8.toNat_inj.1 e.1]
  rw [h2] at h; simp at h
theorem isNil {s : ByteArray} (h : s.toList.isEmpty = true) : bytes s = [] := by
  rw [toList_bytes, List.isEmpty_iff.1 h]; rfl
theorem notNil {s : ByteArray} (h : s.toList.isEmpty = false) : ¬ bytes s = [] := by
  rw [toList_bytes]; intro e; rw [List.map_eq_nil_iff.1 e] at h; simp at h
/-- The rune at a byte: the byte itself, or something greater than 127. -/
theorem rune_of (s : ByteArray) (j : Nat) (h : j < s.size) : ∃ x : Nat, ((bytes s)[j]? = some x ∧ x < 128 ∧ (Utf8.decode s j) = (x, 1)) ∨ (∃ y, (bytes s)[j]? = some y ∧ 128 ≤ y ∧ (Utf8.decode s j).1 = x ∧ 128 ≤ x ∧ x ≤ 2147483647) := by
  rcases Nat.lt_or_ge (s[j]'h).toNat 128 with g | g
  · exact ⟨_, Or.inl ⟨bytes_at s j h, g, decode_ascii s j h g⟩⟩
  · exact ⟨_, Or.inr ⟨_, bytes_at s j h, g, rfl, (decode_high s j h g).1, decode_le s j⟩⟩
/-- string(b), b a slice of the call's own. -/
theorem conv_own (W : World) (B g n cap : Nat) (l : List Int) (hl : l.length = n) (h : W.ownsRow B 5 1 (.slice (some ⟨g, 0, none⟩) n cap) n (l.map (Value.int .u8))) :
    (convert 25 9 (.slice (some ⟨g, 0, none⟩) n cap)).run Try.prog W = .ok (.string (strOf l)) W := by
  rw [run_convert_bytes_string W _ _ _ _ _ _ Try.underlying25 Try.underlying5 Try.underlying9, run_bytesToString W _ n cap l, strOf_eq]
  have hl2 := run_loadCells_list (P := Try.prog) W ⟨g, 0, none⟩ (l.map (Value.int .u8)) (fun j v hv => by
    have hadd : (⟨g, 0, none⟩ : Addr).add j = ⟨g, j, none⟩ := by unfold Addr.add; split <;> simp_all
    have hj : j < n := by
      rcases Nat.lt_or_ge j n with g | g
      · exact g
      · rw [List.getElem?_eq_none (by simpa [hl] using g)] at hv; cases hv
    rw [hadd, h.cellAt j (by omega)]; exact hv)
  rw [← hl]; simpa using hl2
theorem below_next {w a b : World} (h : Below w.heap.size w a) (k : Below a.heap.size a b) : Below w.heap.size w b := h.trans (k.mono h.size)
theorem Seq.lit (w : World) (t : TypeId) (xs : List Int) : Seq (w.alloc (.cells (xs.map (Value.int .u8)).toArray t)) (w.heap.size + 1) (some ⟨w.heap.size, 0, none⟩) xs := fun hl => by
  refine ⟨w.heap.size, 0, rfl, by omega, fun j hj => ?_⟩
  rw [cell_of_row _ _ _ _ _ _ (Go.heap_alloc_new _ _)]
  simp [hj]
theorem own_slice {w : World} {B : Nat} {t : TypeId} {v : Value} {n : Nat} {xs : List Int} (h : w.ownsRow B t 1 v n (xs.map (Value.int .u8))) :
    ∃ A k, v = .slice A n k ∧ xs.length = n ∧ Seq w w.heap.size A xs := by
  obtain ⟨hlen, hform⟩ := id h
  have hl : xs.length = n := by simpa using hlen
  rcases hform with ⟨rfl, hn0⟩ | ⟨g, cap, cur, rfl, hg, hblk, hcap, hmax, hsz, htk⟩
  · subst hn0
    have : xs = [] := List.eq_nil_of_length_eq_zero hl
    subst this
    exact ⟨_, _, rfl, rfl, Seq.nil⟩
  · refine ⟨_, _, rfl, hl, fun _ => ⟨g, 0, rfl, ?_, fun j hj => ?_⟩⟩
    · exact Blk.lt hblk
    · rw [Nat.zero_add, h.cellAt j (by omega)]
      simp [hj]
/-- A call returns a slice that reads as l. -/
def SliceEnd (w : World) (l : List Int) (e : Ending) (w' : World) : Prop :=
  ∃ A k, e = .returned (.slice A l.length k) ∧ Seq w' w'.heap.size A l ∧ Below w.heap.size w w'
theorem strOf_size (l : List Int) : (strOf l).size = l.length := by simp [strOf, ByteArray.size]
theorem strOf_empty (l : List Int) : (strOf l).toList.isEmpty = l.isEmpty := by
  rw [ByteArray.toList_eq]; cases l <;> simp [strOf]
end Go.Proofs.Ytpkdlljefkbmpaa

/-! A region that draws its order, by one invariant: each operation once. -/
namespace Go.Proofs.Ytpkdlljefkbmpaa
open Go.RowKit

theorem ready_nil {md : Region.Mode} {ops : Array Oper} (hac : ∀ (i : Nat) (o : Oper), ops[i]? = some o → ∀ e ∈ o.after, Region.binds md e = true → e.on < i)
    {listed : Array Bool} (hsz : listed.size = ops.size) (h : Region.ready md ops listed = []) : ∀ i, i < ops.size → listed.getD i false = true := by
  intro i
  induction i using Nat.strongRecOn with
  | ind i ih =>
    intro hi
    cases hb : listed.getD i false with
    | true => rfl
    | false =>
      have : i ∈ Region.ready md ops listed := by
        rw [mem_ready]
        refine ⟨?_, ops[i], by simp [hi], fun e he hb => ?_⟩
        · have : i < listed.size := by omega
          simpa [this] using hb
        · exact ih e.on (hac i _ (by simp [hi]) e he hb) (by have := hac i _ (by simp [hi]) e he hb; omega)
      rw [h] at this
      cases this
theorem count_set_lt {listed : Array Bool} {i : Nat} (hi : i < listed.size) (hb : listed.getD i true = false) :
    (listed.setIfInBounds i true).toList.count false + 1 = listed.toList.count false := by
  have h1 : listed.toList[i]'(by simpa using hi) = false := by simpa [hi] using hb
  have hpos : 0 < listed.toList.count false := by
    rw [List.count_pos_iff, ← h1]
    exact List.getElem_mem _
  rw [Array.toList_setIfInBounds, List.count_set (by simpa using hi), h1]
  show List.count false listed.toList - 1 + 0 + 1 = _
  omega
theorem wpAny_inv {P : Program} {md : Region.Mode} {ops : Array Oper} {Q : Exit → Act → World → Prop} (I : (Nat → Bool) → Act → World → Prop)
    (hac : ∀ (i : Nat) (o : Oper), ops[i]? = some o → ∀ e ∈ o.after, Region.binds md e = true → e.on < i)
    (hstep : ∀ (b : Nat → Bool) (a : Act) (w : World) (i : Nat), I b a w → i < ops.size → b i = false → (∀ o, ops[i]? = some o → ∀ e ∈ o.after, Region.binds md e = true → b e.on = true) → wpOp P ops Q i (I (fun j => if j = i then true else b j)) a w)
    (hdone : ∀ (b : Nat → Bool) (a : Act) (w : World), I b a w → (∀ i, i < ops.size → b i = true) → Q .normal a w) :
    ∀ (fuel : Nat) (listed : Array Bool) (a : Act) (w : World), listed.size = ops.size → I (fun j => listed.getD j false) a w → listed.toList.count false ≤ fuel → wpAny P md ops Q fuel listed a w := by
  intro fuel
  induction fuel with
  | zero =>
    intro listed a w hsz hI hc
    have hr : Region.ready md ops listed = [] := by
      rw [List.eq_nil_iff_forall_not_mem]
      intro i hi
      have h0 := (mem_ready.1 hi).1
      have hlt : i < listed.size := by
        rcases Nat.lt_or_ge i listed.size with h | h
        · exact h
        · simp [Array.getElem?_eq_none h] at h0
      have := count_set_lt hlt h0
      omega
    exact ⟨hr, hdone _ _ _ hI (ready_nil hac hsz hr)⟩
  | succ fuel ih =>
    intro listed a w hsz hI hc
    refine ⟨fun hr => hdone _ _ _ hI (ready_nil hac hsz hr), fun i hi => ?_⟩
    obtain ⟨h0, o, ho, hall⟩ := mem_ready.1 hi
    have hlt : i < listed.size := by
      rcases Nat.lt_or_ge i listed.size with h | h
      · exact h
      · simp [Array.getElem?_eq_none h] at h0
    have hcs := count_set_lt hlt h0
    refine wpOp_mono (fun a' w' h => ih _ a' w' (by simpa using hsz) ?_ (by omega)) (hstep _ a w i hI (by omega) (by simpa [hlt] using h0) (fun o' ho' e he hb => by rw [ho] at ho'; cases ho'; exact hall e he hb))
    have e : (fun j => (listed.setIfInBounds i true).getD j false) = fun j => if j = i then true else listed.getD j false := by
      funext j
      by_cases hj : j = i
      · subst hj; simp [hlt]
      · rw [getD_set_ne false (Ne.symm hj), if_neg hj]
    rw [e]
    exact h

def upd (y : Nat → Value) (i : Nat) (v : Value) : Nat → Value := fun j => if j = i then v else y j
theorem upd_at {y : Nat → Value} {i : Nat} {v : Value} (h : y i = v) : ∃ y1, y = upd y1 i v := ⟨y, by
  funext j
  by_cases hj : j = i
  · subst hj; simp [upd, h]
  · simp [upd, hj]⟩
def depsOf (ops : Array Oper) (i : Nat) : List Nat := ((ops[i]?).map fun o => (o.after.toList.filter (Region.binds .any)).map (·.on)).getD []
theorem allCons {p : Nat → Prop} {i : Nat} {l : List Nat} (h : p i) (hl : ∀ j ∈ l, p j) : ∀ j ∈ i :: l, p j := fun j hj => by
  rcases List.mem_cons.1 hj with rfl | hj
  · exact h
  · exact hl j hj
theorem allNil {p : Nat → Prop} : ∀ j ∈ ([] : List Nat), p j := fun _ h => by cases h
/-- A region that only makes: each operation once, whatever the others did; S holds throughout, φ i speaks of what the operation i yields. -/
theorem wp_region_inv {P : Program} {id : Nat} {ops : Array Oper} {Q : Exit → Act → World → Prop} {d : List Deferred} {w0 : World} (hm : P.follows .mixedOrders = true)
    (slots : (Nat → Value) → List Value) (S : World → Prop) (φ : Nat → Value → World → Prop) (y0 : Nat → Value)
    (hac : (List.range ops.size).all (fun i => (depsOf ops i).all (· < i)) = true)
    (hmono : ∀ i v w w', φ i v w → Below w.heap.size w w' → φ i v w')
    (hS : S w0.drew)
    (rs : List Nat) (hrs : List.range ops.size = rs)
    (hop : ∀ i ∈ rs, ∀ (y : Nat → Value) (w : World) (K : Act → World → Prop), S w → (∀ j, (depsOf ops i).contains j = true → φ j (y j) w) →
      (∀ v w', S w' → φ i v w' → Below w.heap.size w w' → K ⟨(slots (upd y i v)).toArray, d⟩ w') → wpOp P ops Q i K ⟨(slots y).toArray, d⟩ w)
    (hend : ∀ (y : Nat → Value) (w : World), S w → (∀ i, i < ops.size → φ i (y i) w) → Q .normal ⟨(slots y).toArray, d⟩ w) :
    (Code.region id ops true).wp P Q ⟨(slots y0).toArray, d⟩ w0 := by
  have hdep : ∀ (i : Nat) (o : Oper), ops[i]? = some o → ∀ e ∈ o.after, Region.binds .any e = true → e.on ∈ depsOf ops i := by
    intro i o ho e he hb
    unfold depsOf
    rw [ho]
    simp only [Option.map_some, Option.getD_some, List.mem_map, List.mem_filter]
    exact ⟨e, ⟨by simpa using he, hb⟩, rfl⟩
  refine wp_region_any hm ?_
  refine wpAny_inv (fun b a w => ∃ y, a = ⟨(slots y).toArray, d⟩ ∧ S w ∧ ∀ i, b i = true → φ i (y i) w) ?_ ?_ ?_ _ _ _ _ (by simp) ⟨y0, rfl, hS, ?_⟩ (by simp)
  · intro i o ho e he hb
    have hi : i < ops.size := (Array.getElem?_eq_some_iff.1 ho).1
    have h1 := List.all_eq_true.1 hac i (List.mem_range.2 hi)
    have h2 := List.all_eq_true.1 h1 e.on (hdep i o ho e he hb)
    simpa using h2
  · rintro b a w i ⟨y, rfl, hSw, hφ⟩ hi hbi hd
    refine hop i (by rw [← hrs]; exact List.mem_range.2 hi) y w _ hSw (fun j hj => hφ j ?_) (fun v w' hS' hv hb' => ⟨upd y i v, rfl, hS', fun j hj => ?_⟩)
    · have ho : ops[i]? = some ops[i] := by simp [hi]
      unfold depsOf at hj
      rw [ho] at hj
      simp only [Option.map_some, Option.getD_some, List.contains_iff_mem, List.mem_map, List.mem_filter] at hj
      obtain ⟨e, ⟨he, hb⟩, rfl⟩ := hj
      exact hd _ ho e (by simpa using he) hb
    · by_cases hji : j = i
      · subst hji
        have : upd y j v j = v := by simp [upd]
        rw [this]; exact hv
      · have : upd y i v j = y j := by simp [upd, hji]
        rw [this]
        exact hmono j _ w w' (hφ j (by simpa [hji] using hj)) hb'
  · rintro b a w ⟨y, rfl, hSw, hφ⟩ hall
    exact hend y w hSw (fun i hi => hφ i (hall i hi))
  · intro i hi
    by_cases h : i < ops.size
    · simp [h] at hi
    · simp [h] at hi
end Go.Proofs.Ytpkdlljefkbmpaa

/-! Numbers as text: strconv's Itoa and Atoi, strings.Join and IndexByte, by their contracts; the variables of the library that they read. -/
namespace Go.Proofs.Ytpkdlljefkbmpaa
open Go.RowKit
/-- What the library's variables hold. -/
def Laid (w : World) : Prop := (∃ tp p, w.var? Try.prog "strconv.ErrSyntax" = some #[.iface tp p]) ∧ (∃ tp p, w.var? Try.prog "strconv.ErrRange" = some #[.iface tp p]) ∧ Lib.TabIs Try.prog w "internal/strconv.uint64pow10" .u64 Lib.pow10Tab
theorem var_lt {w : World} {n : String} {g : Nat} {cs : Array Value} (hg : Try.prog.globalNamed n = some g) (h : w.var? Try.prog n = some cs) : g < w.heap.size := by
  unfold World.var? at h
  rw [hg] at h
  simp only [Option.bind_some] at h
  rcases Nat.lt_or_ge g w.heap.size with hl | hl
  · exact hl
  · rw [Array.getElem?_eq_none hl] at h; cases h
def strU (l : List UInt8) : ByteArray := ⟨l.toArray⟩
/-- The number that a string spells in decimal digits, and whether there is one. -/
def atoiE (l : List UInt8) : Option Int := match Lib.atoiAll l with
  | .ok v => some v
  | _ => none
def AtoiEnd (l : List UInt8) (w : World) (e : Ending) (w' : World) : Prop :=
  Below w.heap.size w w' ∧ match atoiE l with
    | some v => e = .returned (.tuple #[.int .i64 v, .nilIface])
    | none => ∃ v tp p, e = .returned (.tuple #[.int .i64 v, .iface tp p])
end Go.Proofs.Ytpkdlljefkbmpaa

/-! What is held through a region that makes memory: cells stay. -/
namespace Go.Proofs.Ytpkdlljefkbmpaa
open Go.RowKit
theorem kept1 {V w' w'' : World} {b0 o0 : Nat} {v0 : Value} (hb : Below w'.heap.size w' w'') (H : Below V.heap.size V w' ∧ w'.cell? ⟨b0, o0, none⟩ = some v0) : Below V.heap.size V w'' ∧ w''.cell? ⟨b0, o0, none⟩ = some v0 := by
  obtain ⟨h0, a0⟩ := H
  have key : ∀ b i v, w'.cell? ⟨b, i, none⟩ = some v → w''.cell? ⟨b, i, none⟩ = some v := fun b i v h => (hb.cell (p := ⟨b, i, none⟩) (World.block_lt_of_cell? w' ⟨b, i, none⟩ h)).trans h
  exact ⟨h0.trans (hb.mono h0.size), key _ _ _ a0⟩
theorem kept2 {V w' w'' : World} {b0 o0 b1 o1 : Nat} {v0 v1 : Value} (hb : Below w'.heap.size w' w'') (H : Below V.heap.size V w' ∧ w'.cell? ⟨b0, o0, none⟩ = some v0 ∧ w'.cell? ⟨b1, o1, none⟩ = some v1) : Below V.heap.size V w'' ∧ w''.cell? ⟨b0, o0, none⟩ = some v0 ∧ w''.cell? ⟨b1, o1, none⟩ = some v1 := by
  obtain ⟨h0, a0, a1⟩ := H
  have key : ∀ b i v, w'.cell? ⟨b, i, none⟩ = some v → w''.cell? ⟨b, i, none⟩ = some v := fun b i v h => (hb.cell (p := ⟨b, i, none⟩) (World.block_lt_of_cell? w' ⟨b, i, none⟩ h)).trans h
  exact ⟨h0.trans (hb.mono h0.size), key _ _ _ a0, key _ _ _ a1⟩
theorem kept3 {V w' w'' : World} {b0 o0 b1 o1 b2 o2 : Nat} {v0 v1 v2 : Value} (hb : Below w'.heap.size w' w'') (H : Below V.heap.size V w' ∧ w'.cell? ⟨b0, o0, none⟩ = some v0 ∧ w'.cell? ⟨b1, o1, none⟩ = some v1 ∧ w'.cell? ⟨b2, o2, none⟩ = some v2) : Below V.heap.size V w'' ∧ w''.cell? ⟨b0, o0, none⟩ = some v0 ∧ w''.cell? ⟨b1, o1, none⟩ = some v1 ∧ w''.cell? ⟨b2, o2, none⟩ = some v2 := by
  obtain ⟨h0, a0, a1, a2⟩ := H
  have key : ∀ b i v, w'.cell? ⟨b, i, none⟩ = some v → w''.cell? ⟨b, i, none⟩ = some v := fun b i v h => (hb.cell (p := ⟨b, i, none⟩) (World.block_lt_of_cell? w' ⟨b, i, none⟩ h)).trans h
  exact ⟨h0.trans (hb.mono h0.size), key _ _ _ a0, key _ _ _ a1, key _ _ _ a2⟩
theorem kept4 {V w' w'' : World} {b0 o0 b1 o1 b2 o2 b3 o3 : Nat} {v0 v1 v2 v3 : Value} (hb : Below w'.heap.size w' w'') (H : Below V.heap.size V w' ∧ w'.cell? ⟨b0, o0, none⟩ = some v0 ∧ w'.cell? ⟨b1, o1, none⟩ = some v1 ∧ w'.cell? ⟨b2, o2, none⟩ = some v2 ∧ w'.cell? ⟨b3, o3, none⟩ = some v3) : Below V.heap.size V w'' ∧ w''.cell? ⟨b0, o0, none⟩ = some v0 ∧ w''.cell? ⟨b1, o1, none⟩ = some v1 ∧ w''.cell? ⟨b2, o2, none⟩ = some v2 ∧ w''.cell? ⟨b3, o3, none⟩ = some v3 := by
  obtain ⟨h0, a0, a1, a2, a3⟩ := H
  have key : ∀ b i v, w'.cell? ⟨b, i, none⟩ = some v → w''.cell? ⟨b, i, none⟩ = some v := fun b i v h => (hb.cell (p := ⟨b, i, none⟩) (World.block_lt_of_cell? w' ⟨b, i, none⟩ h)).trans h
  exact ⟨h0.trans (hb.mono h0.size), key _ _ _ a0, key _ _ _ a1, key _ _ _ a2, key _ _ _ a3⟩
theorem kept5 {V w' w'' : World} {b0 o0 b1 o1 b2 o2 b3 o3 b4 o4 : Nat} {v0 v1 v2 v3 v4 : Value} (hb : Below w'.heap.size w' w'') (H : Below V.heap.size V w' ∧ w'.cell? ⟨b0, o0, none⟩ = some v0 ∧ w'.cell? ⟨b1, o1, none⟩ = some v1 ∧ w'.cell? ⟨b2, o2, none⟩ = some v2 ∧ w'.cell? ⟨b3, o3, none⟩ = some v3 ∧ w'.cell? ⟨b4, o4, none⟩ = some v4) : Below V.heap.size V w'' ∧ w''.cell? ⟨b0, o0, none⟩ = some v0 ∧ w''.cell? ⟨b1, o1, none⟩ = some v1 ∧ w''.cell? ⟨b2, o2, none⟩ = some v2 ∧ w''.cell? ⟨b3, o3, none⟩ = some v3 ∧ w''.cell? ⟨b4, o4, none⟩ = some v4 := by
  obtain ⟨h0, a0, a1, a2, a3, a4⟩ := H
  have key : ∀ b i v, w'.cell? ⟨b, i, none⟩ = some v → w''.cell? ⟨b, i, none⟩ = some v := fun b i v h => (hb.cell (p := ⟨b, i, none⟩) (World.block_lt_of_cell? w' ⟨b, i, none⟩ h)).trans h
  exact ⟨h0.trans (hb.mono h0.size), key _ _ _ a0, key _ _ _ a1, key _ _ _ a2, key _ _ _ a3, key _ _ _ a4⟩
theorem kept6 {V w' w'' : World} {b0 o0 b1 o1 b2 o2 b3 o3 b4 o4 b5 o5 : Nat} {v0 v1 v2 v3 v4 v5 : Value} (hb : Below w'.heap.size w' w'') (H : Below V.heap.size V w' ∧ w'.cell? ⟨b0, o0, none⟩ = some v0 ∧ w'.cell? ⟨b1, o1, none⟩ = some v1 ∧ w'.cell? ⟨b2, o2, none⟩ = some v2 ∧ w'.cell? ⟨b3, o3, none⟩ = some v3 ∧ w'.cell? ⟨b4, o4, none⟩ = some v4 ∧ w'.cell? ⟨b5, o5, none⟩ = some v5) : Below V.heap.size V w'' ∧ w''.cell? ⟨b0, o0, none⟩ = some v0 ∧ w''.cell? ⟨b1, o1, none⟩ = some v1 ∧ w''.cell? ⟨b2, o2, none⟩ = some v2 ∧ w''.cell? ⟨b3, o3, none⟩ = some v3 ∧ w''.cell? ⟨b4, o4, none⟩ = some v4 ∧ w''.cell? ⟨b5, o5, none⟩ = some v5 := by
  obtain ⟨h0, a0, a1, a2, a3, a4, a5⟩ := H
  have key : ∀ b i v, w'.cell? ⟨b, i, none⟩ = some v → w''.cell? ⟨b, i, none⟩ = some v := fun b i v h => (hb.cell (p := ⟨b, i, none⟩) (World.block_lt_of_cell? w' ⟨b, i, none⟩ h)).trans h
  exact ⟨h0.trans (hb.mono h0.size), key _ _ _ a0, key _ _ _ a1, key _ _ _ a2, key _ _ _ a3, key _ _ _ a4, key _ _ _ a5⟩
theorem kept7 {V w' w'' : World} {b0 o0 b1 o1 b2 o2 b3 o3 b4 o4 b5 o5 b6 o6 : Nat} {v0 v1 v2 v3 v4 v5 v6 : Value} (hb : Below w'.heap.size w' w'') (H : Below V.heap.size V w' ∧ w'.cell? ⟨b0, o0, none⟩ = some v0 ∧ w'.cell? ⟨b1, o1, none⟩ = some v1 ∧ w'.cell? ⟨b2, o2, none⟩ = some v2 ∧ w'.cell? ⟨b3, o3, none⟩ = some v3 ∧ w'.cell? ⟨b4, o4, none⟩ = some v4 ∧ w'.cell? ⟨b5, o5, none⟩ = some v5 ∧ w'.cell? ⟨b6, o6, none⟩ = some v6) : Below V.heap.size V w'' ∧ w''.cell? ⟨b0, o0, none⟩ = some v0 ∧ w''.cell? ⟨b1, o1, none⟩ = some v1 ∧ w''.cell? ⟨b2, o2, none⟩ = some v2 ∧ w''.cell? ⟨b3, o3, none⟩ = some v3 ∧ w''.cell? ⟨b4, o4, none⟩ = some v4 ∧ w''.cell? ⟨b5, o5, none⟩ = some v5 ∧ w''.cell? ⟨b6, o6, none⟩ = some v6 := by
  obtain ⟨h0, a0, a1, a2, a3, a4, a5, a6⟩ := H
  have key : ∀ b i v, w'.cell? ⟨b, i, none⟩ = some v → w''.cell? ⟨b, i, none⟩ = some v := fun b i v h => (hb.cell (p := ⟨b, i, none⟩) (World.block_lt_of_cell? w' ⟨b, i, none⟩ h)).trans h
  exact ⟨h0.trans (hb.mono h0.size), key _ _ _ a0, key _ _ _ a1, key _ _ _ a2, key _ _ _ a3, key _ _ _ a4, key _ _ _ a5, key _ _ _ a6⟩
theorem kept8 {V w' w'' : World} {b0 o0 b1 o1 b2 o2 b3 o3 b4 o4 b5 o5 b6 o6 b7 o7 : Nat} {v0 v1 v2 v3 v4 v5 v6 v7 : Value} (hb : Below w'.heap.size w' w'') (H : Below V.heap.size V w' ∧ w'.cell? ⟨b0, o0, none⟩ = some v0 ∧ w'.cell? ⟨b1, o1, none⟩ = some v1 ∧ w'.cell? ⟨b2, o2, none⟩ = some v2 ∧ w'.cell? ⟨b3, o3, none⟩ = some v3 ∧ w'.cell? ⟨b4, o4, none⟩ = some v4 ∧ w'.cell? ⟨b5, o5, none⟩ = some v5 ∧ w'.cell? ⟨b6, o6, none⟩ = some v6 ∧ w'.cell? ⟨b7, o7, none⟩ = some v7) : Below V.heap.size V w'' ∧ w''.cell? ⟨b0, o0, none⟩ = some v0 ∧ w''.cell? ⟨b1, o1, none⟩ = some v1 ∧ w''.cell? ⟨b2, o2, none⟩ = some v2 ∧ w''.cell? ⟨b3, o3, none⟩ = some v3 ∧ w''.cell? ⟨b4, o4, none⟩ = some v4 ∧ w''.cell? ⟨b5, o5, none⟩ = some v5 ∧ w''.cell? ⟨b6, o6, none⟩ = some v6 ∧ w''.cell? ⟨b7, o7, none⟩ = some v7 := by
  obtain ⟨h0, a0, a1, a2, a3, a4, a5, a6, a7⟩ := H
  have key : ∀ b i v, w'.cell? ⟨b, i, none⟩ = some v → w''.cell? ⟨b, i, none⟩ = some v := fun b i v h => (hb.cell (p := ⟨b, i, none⟩) (World.block_lt_of_cell? w' ⟨b, i, none⟩ h)).trans h
  exact ⟨h0.trans (hb.mono h0.size), key _ _ _ a0, key _ _ _ a1, key _ _ _ a2, key _ _ _ a3, key _ _ _ a4, key _ _ _ a5, key _ _ _ a6, key _ _ _ a7⟩
theorem kept9 {V w' w'' : World} {b0 o0 b1 o1 b2 o2 b3 o3 b4 o4 b5 o5 b6 o6 b7 o7 b8 o8 : Nat} {v0 v1 v2 v3 v4 v5 v6 v7 v8 : Value} (hb : Below w'.heap.size w' w'') (H : Below V.heap.size V w' ∧ w'.cell? ⟨b0, o0, none⟩ = some v0 ∧ w'.cell? ⟨b1, o1, none⟩ = some v1 ∧ w'.cell? ⟨b2, o2, none⟩ = some v2 ∧ w'.cell? ⟨b3, o3, none⟩ = some v3 ∧ w'.cell? ⟨b4, o4, none⟩ = some v4 ∧ w'.cell? ⟨b5, o5, none⟩ = some v5 ∧ w'.cell? ⟨b6, o6, none⟩ = some v6 ∧ w'.cell? ⟨b7, o7, none⟩ = some v7 ∧ w'.cell? ⟨b8, o8, none⟩ = some v8) : Below V.heap.size V w'' ∧ w''.cell? ⟨b0, o0, none⟩ = some v0 ∧ w''.cell? ⟨b1, o1, none⟩ = some v1 ∧ w''.cell? ⟨b2, o2, none⟩ = some v2 ∧ w''.cell? ⟨b3, o3, none⟩ = some v3 ∧ w''.cell? ⟨b4, o4, none⟩ = some v4 ∧ w''.cell? ⟨b5, o5, none⟩ = some v5 ∧ w''.cell? ⟨b6, o6, none⟩ = some v6 ∧ w''.cell? ⟨b7, o7, none⟩ = some v7 ∧ w''.cell? ⟨b8, o8, none⟩ = some v8 := by
  obtain ⟨h0, a0, a1, a2, a3, a4, a5, a6, a7, a8⟩ := H
  have key : ∀ b i v, w'.cell? ⟨b, i, none⟩ = some v → w''.cell? ⟨b, i, none⟩ = some v := fun b i v h => (hb.cell (p := ⟨b, i, none⟩) (World.block_lt_of_cell? w' ⟨b, i, none⟩ h)).trans h
  exact ⟨h0.trans (hb.mono h0.size), key _ _ _ a0, key _ _ _ a1, key _ _ _ a2, key _ _ _ a3, key _ _ _ a4, key _ _ _ a5, key _ _ _ a6, key _ _ _ a7, key _ _ _ a8⟩
theorem kept10 {V w' w'' : World} {b0 o0 b1 o1 b2 o2 b3 o3 b4 o4 b5 o5 b6 o6 b7 o7 b8 o8 b9 o9 : Nat} {v0 v1 v2 v3 v4 v5 v6 v7 v8 v9 : Value} (hb : Below w'.heap.size w' w'') (H : Below V.heap.size V w' ∧ w'.cell? ⟨b0, o0, none⟩ = some v0 ∧ w'.cell? ⟨b1, o1, none⟩ = some v1 ∧ w'.cell? ⟨b2, o2, none⟩ = some v2 ∧ w'.cell? ⟨b3, o3, none⟩ = some v3 ∧ w'.cell? ⟨b4, o4, none⟩ = some v4 ∧ w'.cell? ⟨b5, o5, none⟩ = some v5 ∧ w'.cell? ⟨b6, o6, none⟩ = some v6 ∧ w'.cell? ⟨b7, o7, none⟩ = some v7 ∧ w'.cell? ⟨b8, o8, none⟩ = some v8 ∧ w'.cell? ⟨b9, o9, none⟩ = some v9) : Below V.heap.size V w'' ∧ w''.cell? ⟨b0, o0, none⟩ = some v0 ∧ w''.cell? ⟨b1, o1, none⟩ = some v1 ∧ w''.cell? ⟨b2, o2, none⟩ = some v2 ∧ w''.cell? ⟨b3, o3, none⟩ = some v3 ∧ w''.cell? ⟨b4, o4, none⟩ = some v4 ∧ w''.cell? ⟨b5, o5, none⟩ = some v5 ∧ w''.cell? ⟨b6, o6, none⟩ = some v6 ∧ w''.cell? ⟨b7, o7, none⟩ = some v7 ∧ w''.cell? ⟨b8, o8, none⟩ = some v8 ∧ w''.cell? ⟨b9, o9, none⟩ = some v9 := by
  obtain ⟨h0, a0, a1, a2, a3, a4, a5, a6, a7, a8, a9⟩ := H
  have key : ∀ b i v, w'.cell? ⟨b, i, none⟩ = some v → w''.cell? ⟨b, i, none⟩ = some v := fun b i v h => (hb.cell (p := ⟨b, i, none⟩) (World.block_lt_of_cell? w' ⟨b, i, none⟩ h)).trans h
  exact ⟨h0.trans (hb.mono h0.size), key _ _ _ a0, key _ _ _ a1, key _ _ _ a2, key _ _ _ a3, key _ _ _ a4, key _ _ _ a5, key _ _ _ a6, key _ _ _ a7, key _ _ _ a8, key _ _ _ a9⟩
theorem kept11 {V w' w'' : World} {b0 o0 b1 o1 b2 o2 b3 o3 b4 o4 b5 o5 b6 o6 b7 o7 b8 o8 b9 o9 b10 o10 : Nat} {v0 v1 v2 v3 v4 v5 v6 v7 v8 v9 v10 : Value} (hb : Below w'.heap.size w' w'') (H : Below V.heap.size V w' ∧ w'.cell? ⟨b0, o0, none⟩ = some v0 ∧ w'.cell? ⟨b1, o1, none⟩ = some v1 ∧ w'.cell? ⟨b2, o2, none⟩ = some v2 ∧ w'.cell? ⟨b3, o3, none⟩ = some v3 ∧ w'.cell? ⟨b4, o4, none⟩ = some v4 ∧ w'.cell? ⟨b5, o5, none⟩ = some v5 ∧ w'.cell? ⟨b6, o6, none⟩ = some v6 ∧ w'.cell? ⟨b7, o7, none⟩ = some v7 ∧ w'.cell? ⟨b8, o8, none⟩ = some v8 ∧ w'.cell? ⟨b9, o9, none⟩ = some v9 ∧ w'.cell? ⟨b10, o10, none⟩ = some v10) : Below V.heap.size V w'' ∧ w''.cell? ⟨b0, o0, none⟩ = some v0 ∧ w''.cell? ⟨b1, o1, none⟩ = some v1 ∧ w''.cell? ⟨b2, o2, none⟩ = some v2 ∧ w''.cell? ⟨b3, o3, none⟩ = some v3 ∧ w''.cell? ⟨b4, o4, none⟩ = some v4 ∧ w''.cell? ⟨b5, o5, none⟩ = some v5 ∧ w''.cell? ⟨b6, o6, none⟩ = some v6 ∧ w''.cell? ⟨b7, o7, none⟩ = some v7 ∧ w''.cell? ⟨b8, o8, none⟩ = some v8 ∧ w''.cell? ⟨b9, o9, none⟩ = some v9 ∧ w''.cell? ⟨b10, o10, none⟩ = some v10 := by
  obtain ⟨h0, a0, a1, a2, a3, a4, a5, a6, a7, a8, a9, a10⟩ := H
  have key : ∀ b i v, w'.cell? ⟨b, i, none⟩ = some v → w''.cell? ⟨b, i, none⟩ = some v := fun b i v h => (hb.cell (p := ⟨b, i, none⟩) (World.block_lt_of_cell? w' ⟨b, i, none⟩ h)).trans h
  exact ⟨h0.trans (hb.mono h0.size), key _ _ _ a0, key _ _ _ a1, key _ _ _ a2, key _ _ _ a3, key _ _ _ a4, key _ _ _ a5, key _ _ _ a6, key _ _ _ a7, key _ _ _ a8, key _ _ _ a9, key _ _ _ a10⟩
theorem kept12 {V w' w'' : World} {b0 o0 b1 o1 b2 o2 b3 o3 b4 o4 b5 o5 b6 o6 b7 o7 b8 o8 b9 o9 b10 o10 b11 o11 : Nat} {v0 v1 v2 v3 v4 v5 v6 v7 v8 v9 v10 v11 : Value} (hb : Below w'.heap.size w' w'') (H : Below V.heap.size V w' ∧ w'.cell? ⟨b0, o0, none⟩ = some v0 ∧ w'.cell? ⟨b1, o1, none⟩ = some v1 ∧ w'.cell? ⟨b2, o2, none⟩ = some v2 ∧ w'.cell? ⟨b3, o3, none⟩ = some v3 ∧ w'.cell? ⟨b4, o4, none⟩ = some v4 ∧ w'.cell? ⟨b5, o5, none⟩ = some v5 ∧ w'.cell? ⟨b6, o6, none⟩ = some v6 ∧ w'.cell? ⟨b7, o7, none⟩ = some v7 ∧ w'.cell? ⟨b8, o8, none⟩ = some v8 ∧ w'.cell? ⟨b9, o9, none⟩ = some v9 ∧ w'.cell? ⟨b10, o10, none⟩ = some v10 ∧ w'.cell? ⟨b11, o11, none⟩ = some v11) : Below V.heap.size V w'' ∧ w''.cell? ⟨b0, o0, none⟩ = some v0 ∧ w''.cell? ⟨b1, o1, none⟩ = some v1 ∧ w''.cell? ⟨b2, o2, none⟩ = some v2 ∧ w''.cell? ⟨b3, o3, none⟩ = some v3 ∧ w''.cell? ⟨b4, o4, none⟩ = some v4 ∧ w''.cell? ⟨b5, o5, none⟩ = some v5 ∧ w''.cell? ⟨b6, o6, none⟩ = some v6 ∧ w''.cell? ⟨b7, o7, none⟩ = some v7 ∧ w''.cell? ⟨b8, o8, none⟩ = some v8 ∧ w''.cell? ⟨b9, o9, none⟩ = some v9 ∧ w''.cell? ⟨b10, o10, none⟩ = some v10 ∧ w''.cell? ⟨b11, o11, none⟩ = some v11 := by
  obtain ⟨h0, a0, a1, a2, a3, a4, a5, a6, a7, a8, a9, a10, a11⟩ := H
  have key : ∀ b i v, w'.cell? ⟨b, i, none⟩ = some v → w''.cell? ⟨b, i, none⟩ = some v := fun b i v h => (hb.cell (p := ⟨b, i, none⟩) (World.block_lt_of_cell? w' ⟨b, i, none⟩ h)).trans h
  exact ⟨h0.trans (hb.mono h0.size), key _ _ _ a0, key _ _ _ a1, key _ _ _ a2, key _ _ _ a3, key _ _ _ a4, key _ _ _ a5, key _ _ _ a6, key _ _ _ a7, key _ _ _ a8, key _ _ _ a9, key _ _ _ a10, key _ _ _ a11⟩
theorem kept13 {V w' w'' : World} {b0 o0 b1 o1 b2 o2 b3 o3 b4 o4 b5 o5 b6 o6 b7 o7 b8 o8 b9 o9 b10 o10 b11 o11 b12 o12 : Nat} {v0 v1 v2 v3 v4 v5 v6 v7 v8 v9 v10 v11 v12 : Value} (hb : Below w'.heap.size w' w'') (H : Below V.heap.size V w' ∧ w'.cell? ⟨b0, o0, none⟩ = some v0 ∧ w'.cell? ⟨b1, o1, none⟩ = some v1 ∧ w'.cell? ⟨b2, o2, none⟩ = some v2 ∧ w'.cell? ⟨b3, o3, none⟩ = some v3 ∧ w'.cell? ⟨b4, o4, none⟩ = some v4 ∧ w'.cell? ⟨b5, o5, none⟩ = some v5 ∧ w'.cell? ⟨b6, o6, none⟩ = some v6 ∧ w'.cell? ⟨b7, o7, none⟩ = some v7 ∧ w'.cell? ⟨b8, o8, none⟩ = some v8 ∧ w'.cell? ⟨b9, o9, none⟩ = some v9 ∧ w'.cell? ⟨b10, o10, none⟩ = some v10 ∧ w'.cell? ⟨b11, o11, none⟩ = some v11 ∧ w'.cell? ⟨b12, o12, none⟩ = some v12) : Below V.heap.size V w'' ∧ w''.cell? ⟨b0, o0, none⟩ = some v0 ∧ w''.cell? ⟨b1, o1, none⟩ = some v1 ∧ w''.cell? ⟨b2, o2, none⟩ = some v2 ∧ w''.cell? ⟨b3, o3, none⟩ = some v3 ∧ w''.cell? ⟨b4, o4, none⟩ = some v4 ∧ w''.cell? ⟨b5, o5, none⟩ = some v5 ∧ w''.cell? ⟨b6, o6, none⟩ = some v6 ∧ w''.cell? ⟨b7, o7, none⟩ = some v7 ∧ w''.cell? ⟨b8, o8, none⟩ = some v8 ∧ w''.cell? ⟨b9, o9, none⟩ = some v9 ∧ w''.cell? ⟨b10, o10, none⟩ = some v10 ∧ w''.cell? ⟨b11, o11, none⟩ = some v11 ∧ w''.cell? ⟨b12, o12, none⟩ = some v12 := by
  obtain ⟨h0, a0, a1, a2, a3, a4, a5, a6, a7, a8, a9, a10, a11, a12⟩ := H
  have key : ∀ b i v, w'.cell? ⟨b, i, none⟩ = some v → w''.cell? ⟨b, i, none⟩ = some v := fun b i v h => (hb.cell (p := ⟨b, i, none⟩) (World.block_lt_of_cell? w' ⟨b, i, none⟩ h)).trans h
  exact ⟨h0.trans (hb.mono h0.size), key _ _ _ a0, key _ _ _ a1, key _ _ _ a2, key _ _ _ a3, key _ _ _ a4, key _ _ _ a5, key _ _ _ a6, key _ _ _ a7, key _ _ _ a8, key _ _ _ a9, key _ _ _ a10, key _ _ _ a11, key _ _ _ a12⟩
theorem kept14 {V w' w'' : World} {b0 o0 b1 o1 b2 o2 b3 o3 b4 o4 b5 o5 b6 o6 b7 o7 b8 o8 b9 o9 b10 o10 b11 o11 b12 o12 b13 o13 : Nat} {v0 v1 v2 v3 v4 v5 v6 v7 v8 v9 v10 v11 v12 v13 : Value} (hb : Below w'.heap.size w' w'') (H : Below V.heap.size V w' ∧ w'.cell? ⟨b0, o0, none⟩ = some v0 ∧ w'.cell? ⟨b1, o1, none⟩ = some v1 ∧ w'.cell? ⟨b2, o2, none⟩ = some v2 ∧ w'.cell? ⟨b3, o3, none⟩ = some v3 ∧ w'.cell? ⟨b4, o4, none⟩ = some v4 ∧ w'.cell? ⟨b5, o5, none⟩ = some v5 ∧ w'.cell? ⟨b6, o6, none⟩ = some v6 ∧ w'.cell? ⟨b7, o7, none⟩ = some v7 ∧ w'.cell? ⟨b8, o8, none⟩ = some v8 ∧ w'.cell? ⟨b9, o9, none⟩ = some v9 ∧ w'.cell? ⟨b10, o10, none⟩ = some v10 ∧ w'.cell? ⟨b11, o11, none⟩ = some v11 ∧ w'.cell? ⟨b12, o12, none⟩ = some v12 ∧ w'.cell? ⟨b13, o13, none⟩ = some v13) : Below V.heap.size V w'' ∧ w''.cell? ⟨b0, o0, none⟩ = some v0 ∧ w''.cell? ⟨b1, o1, none⟩ = some v1 ∧ w''.cell? ⟨b2, o2, none⟩ = some v2 ∧ w''.cell? ⟨b3, o3, none⟩ = some v3 ∧ w''.cell? ⟨b4, o4, none⟩ = some v4 ∧ w''.cell? ⟨b5, o5, none⟩ = some v5 ∧ w''.cell? ⟨b6, o6, none⟩ = some v6 ∧ w''.cell? ⟨b7, o7, none⟩ = some v7 ∧ w''.cell? ⟨b8, o8, none⟩ = some v8 ∧ w''.cell? ⟨b9, o9, none⟩ = some v9 ∧ w''.cell? ⟨b10, o10, none⟩ = some v10 ∧ w''.cell? ⟨b11, o11, none⟩ = some v11 ∧ w''.cell? ⟨b12, o12, none⟩ = some v12 ∧ w''.cell? ⟨b13, o13, none⟩ = some v13 := by
  obtain ⟨h0, a0, a1, a2, a3, a4, a5, a6, a7, a8, a9, a10, a11, a12, a13⟩ := H
  have key : ∀ b i v, w'.cell? ⟨b, i, none⟩ = some v → w''.cell? ⟨b, i, none⟩ = some v := fun b i v h => (hb.cell (p := ⟨b, i, none⟩) (World.block_lt_of_cell? w' ⟨b, i, none⟩ h)).trans h
  exact ⟨h0.trans (hb.mono h0.size), key _ _ _ a0, key _ _ _ a1, key _ _ _ a2, key _ _ _ a3, key _ _ _ a4, key _ _ _ a5, key _ _ _ a6, key _ _ _ a7, key _ _ _ a8, key _ _ _ a9, key _ _ _ a10, key _ _ _ a11, key _ _ _ a12, key _ _ _ a13⟩
theorem kept15 {V w' w'' : World} {b0 o0 b1 o1 b2 o2 b3 o3 b4 o4 b5 o5 b6 o6 b7 o7 b8 o8 b9 o9 b10 o10 b11 o11 b12 o12 b13 o13 b14 o14 : Nat} {v0 v1 v2 v3 v4 v5 v6 v7 v8 v9 v10 v11 v12 v13 v14 : Value} (hb : Below w'.heap.size w' w'') (H : Below V.heap.size V w' ∧ w'.cell? ⟨b0, o0, none⟩ = some v0 ∧ w'.cell? ⟨b1, o1, none⟩ = some v1 ∧ w'.cell? ⟨b2, o2, none⟩ = some v2 ∧ w'.cell? ⟨b3, o3, none⟩ = some v3 ∧ w'.cell? ⟨b4, o4, none⟩ = some v4 ∧ w'.cell? ⟨b5, o5, none⟩ = some v5 ∧ w'.cell? ⟨b6, o6, none⟩ = some v6 ∧ w'.cell? ⟨b7, o7, none⟩ = some v7 ∧ w'.cell? ⟨b8, o8, none⟩ = some v8 ∧ w'.cell? ⟨b9, o9, none⟩ = some v9 ∧ w'.cell? ⟨b10, o10, none⟩ = some v10 ∧ w'.cell? ⟨b11, o11, none⟩ = some v11 ∧ w'.cell? ⟨b12, o12, none⟩ = some v12 ∧ w'.cell? ⟨b13, o13, none⟩ = some v13 ∧ w'.cell? ⟨b14, o14, none⟩ = some v14) : Below V.heap.size V w'' ∧ w''.cell? ⟨b0, o0, none⟩ = some v0 ∧ w''.cell? ⟨b1, o1, none⟩ = some v1 ∧ w''.cell? ⟨b2, o2, none⟩ = some v2 ∧ w''.cell? ⟨b3, o3, none⟩ = some v3 ∧ w''.cell? ⟨b4, o4, none⟩ = some v4 ∧ w''.cell? ⟨b5, o5, none⟩ = some v5 ∧ w''.cell? ⟨b6, o6, none⟩ = some v6 ∧ w''.cell? ⟨b7, o7, none⟩ = some v7 ∧ w''.cell? ⟨b8, o8, none⟩ = some v8 ∧ w''.cell? ⟨b9, o9, none⟩ = some v9 ∧ w''.cell? ⟨b10, o10, none⟩ = some v10 ∧ w''.cell? ⟨b11, o11, none⟩ = some v11 ∧ w''.cell? ⟨b12, o12, none⟩ = some v12 ∧ w''.cell? ⟨b13, o13, none⟩ = some v13 ∧ w''.cell? ⟨b14, o14, none⟩ = some v14 := by
  obtain ⟨h0, a0, a1, a2, a3, a4, a5, a6, a7, a8, a9, a10, a11, a12, a13, a14⟩ := H
  have key : ∀ b i v, w'.cell? ⟨b, i, none⟩ = some v → w''.cell? ⟨b, i, none⟩ = some v := fun b i v h => (hb.cell (p := ⟨b, i, none⟩) (World.block_lt_of_cell? w' ⟨b, i, none⟩ h)).trans h
  exact ⟨h0.trans (hb.mono h0.size), key _ _ _ a0, key _ _ _ a1, key _ _ _ a2, key _ _ _ a3, key _ _ _ a4, key _ _ _ a5, key _ _ _ a6, key _ _ _ a7, key _ _ _ a8, key _ _ _ a9, key _ _ _ a10, key _ _ _ a11, key _ _ _ a12, key _ _ _ a13, key _ _ _ a14⟩
theorem kept16 {V w' w'' : World} {b0 o0 b1 o1 b2 o2 b3 o3 b4 o4 b5 o5 b6 o6 b7 o7 b8 o8 b9 o9 b10 o10 b11 o11 b12 o12 b13 o13 b14 o14 b15 o15 : Nat} {v0 v1 v2 v3 v4 v5 v6 v7 v8 v9 v10 v11 v12 v13 v14 v15 : Value} (hb : Below w'.heap.size w' w'') (H : Below V.heap.size V w' ∧ w'.cell? ⟨b0, o0, none⟩ = some v0 ∧ w'.cell? ⟨b1, o1, none⟩ = some v1 ∧ w'.cell? ⟨b2, o2, none⟩ = some v2 ∧ w'.cell? ⟨b3, o3, none⟩ = some v3 ∧ w'.cell? ⟨b4, o4, none⟩ = some v4 ∧ w'.cell? ⟨b5, o5, none⟩ = some v5 ∧ w'.cell? ⟨b6, o6, none⟩ = some v6 ∧ w'.cell? ⟨b7, o7, none⟩ = some v7 ∧ w'.cell? ⟨b8, o8, none⟩ = some v8 ∧ w'.cell? ⟨b9, o9, none⟩ = some v9 ∧ w'.cell? ⟨b10, o10, none⟩ = some v10 ∧ w'.cell? ⟨b11, o11, none⟩ = some v11 ∧ w'.cell? ⟨b12, o12, none⟩ = some v12 ∧ w'.cell? ⟨b13, o13, none⟩ = some v13 ∧ w'.cell? ⟨b14, o14, none⟩ = some v14 ∧ w'.cell? ⟨b15, o15, none⟩ = some v15) : Below V.heap.size V w'' ∧ w''.cell? ⟨b0, o0, none⟩ = some v0 ∧ w''.cell? ⟨b1, o1, none⟩ = some v1 ∧ w''.cell? ⟨b2, o2, none⟩ = some v2 ∧ w''.cell? ⟨b3, o3, none⟩ = some v3 ∧ w''.cell? ⟨b4, o4, none⟩ = some v4 ∧ w''.cell? ⟨b5, o5, none⟩ = some v5 ∧ w''.cell? ⟨b6, o6, none⟩ = some v6 ∧ w''.cell? ⟨b7, o7, none⟩ = some v7 ∧ w''.cell? ⟨b8, o8, none⟩ = some v8 ∧ w''.cell? ⟨b9, o9, none⟩ = some v9 ∧ w''.cell? ⟨b10, o10, none⟩ = some v10 ∧ w''.cell? ⟨b11, o11, none⟩ = some v11 ∧ w''.cell? ⟨b12, o12, none⟩ = some v12 ∧ w''.cell? ⟨b13, o13, none⟩ = some v13 ∧ w''.cell? ⟨b14, o14, none⟩ = some v14 ∧ w''.cell? ⟨b15, o15, none⟩ = some v15 := by
  obtain ⟨h0, a0, a1, a2, a3, a4, a5, a6, a7, a8, a9, a10, a11, a12, a13, a14, a15⟩ := H
  have key : ∀ b i v, w'.cell? ⟨b, i, none⟩ = some v → w''.cell? ⟨b, i, none⟩ = some v := fun b i v h => (hb.cell (p := ⟨b, i, none⟩) (World.block_lt_of_cell? w' ⟨b, i, none⟩ h)).trans h
  exact ⟨h0.trans (hb.mono h0.size), key _ _ _ a0, key _ _ _ a1, key _ _ _ a2, key _ _ _ a3, key _ _ _ a4, key _ _ _ a5, key _ _ _ a6, key _ _ _ a7, key _ _ _ a8, key _ _ _ a9, key _ _ _ a10, key _ _ _ a11, key _ _ _ a12, key _ _ _ a13, key _ _ _ a14, key _ _ _ a15⟩
end Go.Proofs.Ytpkdlljefkbmpaa

/-! Lists of numbers that lead through a graph, and their costs, purely: least costs, the least list of the least cost. -/
namespace Go.Proofs.Ytpkdlljefkbmpaa
section
variable {ν : Type} {E : ν → Int → Option ν} {c : Int → Nat} {F : ν → Bool}
/-- Where a list leads. -/
def goE (E : ν → Int → Option ν) : ν → List Int → Option ν
  | v, [] => some v
  | v, k :: r => match E v k with
    | none => none
    | some u => goE E u r
def cstE (c : Int → Nat) : List Int → Nat
  | [] => 0
  | k :: r => c k + cstE c r
/-- A list leads to an end. -/
def GdE (E : ν → Int → Option ν) (F : ν → Bool) (v : ν) (ks : List Int) : Prop := ∃ u, goE E v ks = some u ∧ F u = true
theorem goE_cons {v : ν} {k : Int} {r : List Int} {u : ν} : goE E v (k :: r) = some u ↔ ∃ x, E v k = some x ∧ goE E x r = some u := by
  show (match E v k with | none => none | some u => goE E u r) = some u ↔ _
  cases h : E v k with
  | none => simp
  | some x => simp
theorem goE_app : ∀ (ks ls : List Int) (v : ν), goE E v (ks ++ ls) = (goE E v ks).bind fun u => goE E u ls := by
  intro ks
  induction ks with
  | nil => intro ls v; rfl
  | cons k r ih =>
    intro ls v
    show (match E v k with | none => none | some u => goE E u (r ++ ls)) = (match E v k with | none => none | some u => goE E u r).bind fun u => goE E u ls
    cases E v k with
    | none => rfl
    | some x => exact ih ls x
theorem cstE_app (c : Int → Nat) : ∀ ks ls : List Int, cstE c (ks ++ ls) = cstE c ks + cstE c ls := by
  intro ks
  induction ks with
  | nil => intro ls; simp [cstE]
  | cons k r ih => intro ls; simp only [List.cons_append, cstE, ih]; omega
theorem gdE_nil {v : ν} : GdE E F v [] ↔ F v = true := by
  unfold GdE goE
  constructor
  · rintro ⟨u, h, h2⟩; cases h; exact h2
  · intro h; exact ⟨v, rfl, h⟩
theorem gdE_cons {v : ν} {k : Int} {r : List Int} : GdE E F v (k :: r) ↔ ∃ u, E v k = some u ∧ GdE E F u r := by
  unfold GdE
  constructor
  · rintro ⟨u, h, h2⟩
    obtain ⟨x, h3, h4⟩ := goE_cons.1 h
    exact ⟨x, h3, u, h4, h2⟩
  · rintro ⟨x, h3, u, h4, h2⟩
    exact ⟨u, goE_cons.2 ⟨x, h3, h4⟩, h2⟩
theorem gdE_app {v u : ν} {ks ls : List Int} (h : goE E v ks = some u) : GdE E F v (ks ++ ls) ↔ GdE E F u ls := by
  unfold GdE
  rw [goE_app, h]
  exact Iff.rfl
/-- No list costs less. -/
def MinE (E : ν → Int → Option ν) (c : Int → Nat) (F : ν → Bool) (v : ν) (ks : List Int) : Prop := GdE E F v ks ∧ ∀ ls, GdE E F v ls → cstE c ks ≤ cstE c ls
theorem minE_ex {v : ν} (h : ∃ ks, GdE E F v ks) : ∃ ks, MinE E c F v ks := by
  obtain ⟨ks, h⟩ := h
  generalize hn : cstE c ks = n
  induction n using Nat.strongRecOn generalizing ks with
  | ind n ih =>
    by_cases g : ∃ ls, GdE E F v ls ∧ cstE c ls < n
    · obtain ⟨ls, h1, h2⟩ := g
      exact ih _ h2 ls h1 rfl
    · refine ⟨ks, h, fun ls hl => ?_⟩
      rcases Nat.lt_or_ge (cstE c ls) (cstE c ks) with g2 | g2
      · exact absurd ⟨ls, hl, by omega⟩ g
      · exact g2
/-- The places that a list comes through, the last one left out. -/
def plcE (E : ν → Int → Option ν) : ν → List Int → List ν
  | _, [] => []
  | v, k :: r => v :: match E v k with
    | none => []
    | some u => plcE E u r
theorem plcE_len : ∀ (ks : List Int) (v u : ν), goE E v ks = some u → (plcE E v ks).length = ks.length := by
  intro ks
  induction ks with
  | nil => intro v u _; rfl
  | cons k r ih =>
    intro v u h
    obtain ⟨x, h1, h2⟩ := goE_cons.1 h
    unfold plcE
    rw [h1]
    simp only [List.length_cons, ih x u h2]
theorem plcE_mem : ∀ (ks : List Int) (v u x : ν), goE E v ks = some u → x ∈ plcE E v ks → ∃ a b, ks = a ++ b ∧ goE E v a = some x := by
  intro ks
  induction ks with
  | nil => intro v u x _ h; cases h
  | cons k r ih =>
    intro v u x h hx
    obtain ⟨y, h1, h2⟩ := goE_cons.1 h
    unfold plcE at hx
    rw [h1] at hx
    rcases List.mem_cons.1 hx with e | g
    · exact ⟨[], k :: r, rfl, by rw [e]; rfl⟩
    · obtain ⟨a, b, e, h3⟩ := ih y u x h2 g
      exact ⟨k :: a, b, by rw [e]; rfl, goE_cons.2 ⟨y, h1, h3⟩⟩
theorem minE_tail {v u : ν} {k : Int} {r : List Int} (h : MinE E c F v (k :: r)) (hE : E v k = some u) : MinE E c F u r := by
  obtain ⟨h1, h2⟩ := h
  obtain ⟨x, h3, h4⟩ := gdE_cons.1 h1
  rw [hE] at h3
  cases h3
  refine ⟨h4, fun ls hl => ?_⟩
  have := h2 (k :: ls) (gdE_cons.2 ⟨u, hE, hl⟩)
  simp only [cstE] at this
  omega
theorem minE_nodup (hc : ∀ v k u, E v k = some u → 1 ≤ c k) : ∀ (ks : List Int) (v : ν), MinE E c F v ks → (plcE E v ks).Nodup := by
  intro ks
  induction ks with
  | nil => intro v _; exact List.nodup_nil
  | cons k r ih =>
    intro v h
    obtain ⟨u, h1, h2⟩ := gdE_cons.1 h.1
    have h3 := minE_tail h h1
    unfold plcE
    rw [h1]
    refine List.nodup_cons.2 ⟨fun hm => ?_, ih u h3⟩
    obtain ⟨z, h4, h5⟩ := h2
    obtain ⟨a, b, e, h6⟩ := plcE_mem r u z v h4 hm
    have h7 : GdE E F v b := by
      rw [← gdE_app h6, ← e]
      exact ⟨z, h4, h5⟩
    have h8 := h.2 b h7
    have h9 := hc v k u h1
    rw [e] at h8
    simp only [cstE, cstE_app] at h8
    omega
theorem cstE_len {C : Nat} (hc : ∀ v k u, E v k = some u → c k ≤ C) : ∀ (ks : List Int) (v u : ν), goE E v ks = some u → cstE c ks ≤ C * ks.length := by
  intro ks
  induction ks with
  | nil => intro v u _; simp [cstE]
  | cons k r ih =>
    intro v u h
    obtain ⟨x, h1, h2⟩ := goE_cons.1 h
    have := ih x u h2
    have := hc v k x h1
    simp only [cstE, List.length_cons, Nat.mul_add]
    omega
theorem plcE_in {P : ν → Prop} (hP : ∀ v k u, P v → E v k = some u → P u) : ∀ (ks : List Int) (v : ν), P v → ∀ x ∈ plcE E v ks, P x := by
  intro ks
  induction ks with
  | nil => intro v _ x hx; cases hx
  | cons k r ih =>
    intro v hv x hx
    unfold plcE at hx
    rcases List.mem_cons.1 hx with e | g
    · rw [e]; exact hv
    · cases h : E v k with
      | none => rw [h] at g; cases g
      | some u => rw [h] at g; exact ih u (hP v k u hv h) x g
theorem len_le_of_nodup [DecidableEq ν] : ∀ (L M : List ν), L.Nodup → (∀ x ∈ L, x ∈ M) → L.length ≤ M.length := by
  intro L
  induction L with
  | nil => intro M _ _; exact Nat.zero_le _
  | cons a L ih =>
    intro M h1 h2
    obtain ⟨h3, h4⟩ := List.nodup_cons.1 h1
    have ha := h2 a (List.mem_cons.2 (.inl rfl))
    have h5 := ih (M.erase a) h4 fun x hx => (List.mem_erase_of_ne (fun e => h3 (by rw [← e]; exact hx))).2 (h2 x (List.mem_cons.2 (.inr hx)))
    rw [List.length_erase_of_mem ha] at h5
    have := List.length_pos_iff.2 (List.ne_nil_of_mem ha)
    simp only [List.length_cons]
    omega
/-- The least cost is at most that of a rule for each place. -/
theorem minE_bound [DecidableEq ν] {C : Nat} {L : List ν} (hc : ∀ v k u, E v k = some u → 1 ≤ c k ∧ c k ≤ C) (hL : ∀ v k u, v ∈ L → E v k = some u → u ∈ L) {v : ν} (hv : v ∈ L) {ks : List Int} (h : MinE E c F v ks) : cstE c ks ≤ C * L.length := by
  obtain ⟨u, h1, _⟩ := h.1
  have h2 := cstE_len (fun v k u e => (hc v k u e).2) ks v u h1
  have h3 := len_le_of_nodup _ L (minE_nodup (fun v k u e => (hc v k u e).1) ks v h) (plcE_in (P := fun x => x ∈ L) hL ks v hv)
  rw [plcE_len ks v u h1] at h3
  exact Nat.le_trans h2 (Nat.mul_le_mul_left C h3)
/-- What no rule decreases is no more than the cost of any list. -/
theorem low_of_closed {P : ν → Prop} {h : ν → Nat} (hP : ∀ v k u, P v → E v k = some u → P u) (hF : ∀ v, P v → F v = true → h v = 0) (hE : ∀ v k u, P v → E v k = some u → h v ≤ c k + h u) : ∀ (ks : List Int) (v : ν), P v → GdE E F v ks → h v ≤ cstE c ks := by
  intro ks
  induction ks with
  | nil => intro v hv h; rw [hF v hv (gdE_nil.1 h)]; exact Nat.zero_le _
  | cons k r ih =>
    intro v hv h
    obtain ⟨u, h1, h2⟩ := gdE_cons.1 h
    have h3 := ih u (hP v k u hv h1) h2
    have h4 := hE v k u hv h1
    simp only [cstE]
    omega
/-- Lexicographically less. -/
def lessL : List Int → List Int → Bool
  | [], [] => false
  | [], _ :: _ => true
  | _ :: _, [] => false
  | a :: x, b :: y => if a = b then lessL x y else decide (a < b)
theorem lessL_nil (a : List Int) : lessL a [] = false := by cases a <;> rfl
theorem lessL_eq : ∀ a b : List Int, lessL a b = false → lessL b a = false → a = b := by
  intro a
  induction a with
  | nil =>
    intro b h _
    cases b with
    | nil => rfl
    | cons y s => cases h
  | cons x r ih =>
    intro b h1 h2
    cases b with
    | nil => cases h2
    | cons y s =>
      unfold lessL at h1 h2
      by_cases e : x = y
      · rw [if_pos e] at h1
        rw [if_pos e.symm] at h2
        rw [e, ih s h1 h2]
      · rw [if_neg e, decide_eq_false_iff_not] at h1
        rw [if_neg (fun h => e h.symm), decide_eq_false_iff_not] at h2
        exact absurd (Int.le_antisymm (Int.not_lt.1 h2) (Int.not_lt.1 h1)) e
/-- Of the lists with the least cost the least one. -/
def BestE (E : ν → Int → Option ν) (c : Int → Nat) (F : ν → Bool) (v : ν) (ks : List Int) : Prop := GdE E F v ks ∧ ∀ ls, GdE E F v ls → cstE c ks ≤ cstE c ls ∧ (cstE c ks = cstE c ls → lessL ls ks = false)
theorem BestE.min {v : ν} {ks : List Int} (h : BestE E c F v ks) : MinE E c F v ks := ⟨h.1, fun ls hl => (h.2 ls hl).1⟩
theorem bestE_one {v : ν} {a b : List Int} (h1 : BestE E c F v a) (h2 : BestE E c F v b) : a = b := by
  have e : cstE c a = cstE c b := Nat.le_antisymm (h1.2 b h2.1).1 (h2.2 a h1.1).1
  exact lessL_eq a b ((h2.2 a h1.1).2 e.symm) ((h1.2 b h2.1).2 e)
theorem cstE_pos (hc : ∀ v k u, E v k = some u → 1 ≤ c k) {ks : List Int} {v : ν} (h : GdE E F v ks) (h0 : cstE c ks = 0) : ks = [] := by
  cases ks with
  | nil => rfl
  | cons k r =>
    obtain ⟨u, h1, _⟩ := gdE_cons.1 h
    have := hc v k u h1
    simp only [cstE] at h0
    omega
theorem bestE_nil (hc : ∀ v k u, E v k = some u → 1 ≤ c k) {v : ν} {ks : List Int} (h : GdE E F v ks) (h0 : cstE c ks = 0) : BestE E c F v [] := by
  have e := cstE_pos hc h h0
  subst e
  exact ⟨h, fun ls _ => ⟨Nat.zero_le _, fun _ => lessL_nil ls⟩⟩
/-- The first rule that keeps the least cost begins the least list. -/
theorem bestE_cons {v u : ν} {k : Int} {r : List Int} {h : ν → Nat} (hE : E v k = some u) (hk : c k + h u = h v) (hpos : 0 < h v) (hlow : ∀ x ks, E v x ≠ none → GdE E F v (x :: ks) → ∀ y, E v x = some y → h y ≤ cstE c ks ∧ h v ≤ c x + h y) (hfirst : ∀ x y, E v x = some y → c x + h y = h v → k ≤ x) (hF : F v = true → h v = 0) (hu : cstE c r = h u) (hb : BestE E c F u r) : BestE E c F v (k :: r) := by
  refine ⟨gdE_cons.2 ⟨u, hE, hb.1⟩, fun ls hl => ?_⟩
  cases ls with
  | nil => have := hF (gdE_nil.1 hl); omega
  | cons x s =>
    obtain ⟨y, h1, h2⟩ := gdE_cons.1 hl
    obtain ⟨h3, h4⟩ := hlow x s (by rw [h1]; exact Option.some_ne_none y) hl y h1
    simp only [cstE]
    refine ⟨by omega, fun e => ?_⟩
    have h5 := hfirst x y h1 (by omega)
    unfold lessL
    by_cases e2 : x = k
    · rw [if_pos e2]
      subst e2
      rw [hE] at h1
      cases h1
      exact (hb.2 s h2).2 (by omega)
    · rw [if_neg e2, decide_eq_false_iff_not]
      omega
end
end Go.Proofs.Ytpkdlljefkbmpaa
