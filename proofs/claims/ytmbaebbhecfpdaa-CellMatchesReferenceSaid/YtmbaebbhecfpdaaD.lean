/- Show and Line. -/
import Derived.Test.YtmbaebbhecfpdaaC
namespace Go.Proofs.Ytmbaebbhecfpdaa
open Go.RowKit

/-- A string out of numbers. -/
def strOf (l : List Int) : ByteArray := ⟨(l.map fun n => UInt8.ofNat n.toNat).toArray⟩
theorem strOf_fold (l : List Int) (r : ByteArray) : l.foldl (fun r n => r.push (UInt8.ofNat n.toNat)) r = ⟨(r.data.toList ++ l.map fun n => UInt8.ofNat n.toNat).toArray⟩ := by
  induction l generalizing r with
  | nil => simp
  | cons a l ih => rw [List.foldl_cons, ih]; simp [ByteArray.push]
theorem strOf_eq (l : List Int) : l.foldl (fun r n => r.push (UInt8.ofNat n.toNat)) ByteArray.empty = strOf l := by
  rw [strOf_fold]; rfl
/-- A block that is known whole. -/
def Blk (w : World) (g : Nat) (t : TypeId) (row : Array Value) : Prop := w.heap[g]? = some (.cells row t (0, 0))
section
variable {w w' : World} {g B : Nat} {t : TypeId} {row : Array Value}
theorem Blk.lt (h : Blk w g t row) : g < w.heap.size := by
  rcases Nat.lt_or_ge g w.heap.size with hl | hl
  · exact hl
  · unfold Blk at h; rw [Array.getElem?_eq_none hl] at h; cases h
theorem Blk.cell (h : Blk w g t row) (i : Nat) : w.cell? ⟨g, i, none⟩ = row[i]? := cell_of_row _ _ _ _ _ _ h
theorem Blk.free (h : Blk w g t row) (i : Nat) : w.frozen? ⟨g, i, none⟩ = false := frozen_of_row _ _ _ _ _ h
theorem Blk.set (h : Blk w g t row) (i : Nat) (v : Value) : Blk (w.setCell ⟨g, i, none⟩ v) g t (row.setIfInBounds i v) := heap_setCell_same w g i row t v h
theorem Blk.keep (h : Blk w g t row) (hb : Below B w w') (hg : g < B) : Blk w' g t row := by unfold Blk; rw [hb.block g hg]; exact h
theorem Blk.new (w : World) (row : Array Value) (t : TypeId) : Blk (w.alloc (.cells row t)) w.heap.size t row := Go.heap_alloc_new w _
end
theorem made_row (z : Value) (n : Nat) : madeCells #[z] n = rowOf (fun _ => z) n := by
  apply Array.ext'
  rw [toList_madeCells_one]
  simp [rowOf, List.map_const']
theorem conv_row (W : World) (g n cap : Nat) (f : Nat → Int) (t : TypeId) (h : Blk W g t (rowOf (fun i => .int .u8 (f i)) n)) :
    (convert 45 9 (.slice (some ⟨g, 0, none⟩) n cap)).run Try.prog W = .ok (.string (strOf ((List.range n).map f))) W := by
  rw [run_convert_bytes_string W _ _ _ _ _ _ Try.underlying45 Try.underlying5 Try.underlying9, run_bytesToString W _ n cap ((List.range n).map f), strOf_eq]
  have hl := run_loadCells_list (P := Try.prog) W ⟨g, 0, none⟩ (((List.range n).map f).map (Value.int .u8)) (fun j v hv => by
    have hadd : (⟨g, 0, none⟩ : Addr).add j = ⟨g, j, none⟩ := by unfold Addr.add; split <;> simp_all
    rw [hadd, h.cell j]
    simpa [rowOf] using hv)
  simpa using hl
theorem info_u8 : (Try.prog.info? 5).map (fun i => (i.zero, i.size, i.bytes)) = some (some (.int .u8 0), 1, 1) := by kernel_rfl
theorem info_cell : (Try.prog.info? 24).map (fun i => (i.zero, i.size, i.bytes)) = some (some (.int .u8 0), 1, 1) := by kernel_rfl
theorem make_u8 (w : World) (n : Nat) (hn : n < 2 ^ 47) :
    (Instr.makeSlice 45 (.int .i64 n) (.int .i64 n)).run Try.prog w = .ok (.slice (some ⟨w.heap.size, 0, none⟩) n n) (w.alloc (.cells (rowOf (fun _ => .int .u8 0) n) 5)) := by
  obtain ⟨i0, hi, hz0, hz1, hz2⟩ := info_parts info_u8
  have := run_make (P := Try.prog) w 45 5 i0 (.int .u8 0) Try.underlying45 hi hz0 .i64 .i64 n n (by omega) (by omega) (by rw [hz2]; omega) (by omega)
  rw [this, hz1, ← made_row]; simp [Value.cells]
theorem make_cell (w : World) (n : Nat) (hn : n < 2 ^ 47) :
    (Instr.makeSlice 29 (.int .i64 n) (.int .i64 n)).run Try.prog w = .ok (.slice (some ⟨w.heap.size, 0, none⟩) n n) (w.alloc (.cells (rowOf (fun _ => .int .u8 0) n) 24)) := by
  obtain ⟨i0, hi, hz0, hz1, hz2⟩ := info_parts info_cell
  have := run_make (P := Try.prog) w 29 24 i0 (.int .u8 0) Try.underlying29 hi hz0 .i64 .i64 n n (by omega) (by omega) (by rw [hz2]; omega) (by omega)
  rw [this, hz1, ← made_row]; simp [Value.cells]

def showF (xs : List Int) (j i : Nat) : Int := if i < j then charI (xs.getD i 0) else 0
theorem show_done (xs : List Int) : (List.range xs.length).map (showF xs xs.length) = xs.map charI := by
  apply List.ext_getElem
  · simp
  · intro i h1 h2
    simp at h1
    simp [showF, h1]

set_option maxHeartbeats 400000 in
theorem show_any (A : Option Addr) (n k : Nat) (xs : List Int) (w : World) (hn : xs.length = n) (hmax : n < 2 ^ 47) (hx : Seq w w.heap.size A xs) (hv : ∀ i, 0 ≤ xs.getD i 0 ∧ xs.getD i 0 < 64) :
    Calls Try.prog 32 #[.slice A n k] w fun e w' => e = .returned (.string (strOf (xs.map charI))) ∧ Below w.heap.size w w' := by
  have HN := Lib.hid hn
  clear hn
  have hmk := make_u8 w n hmax
  have hnew := Lib.hid (Blk.new w (rowOf (fun _ => .int .u8 0) n) 5)
  have hbel := Lib.hid ((Below.refl w.heap.size w).alloc (Nat.le_refl _) (.cells (rowOf (fun _ => .int .u8 0) n) 5))
  have HV := Lib.hid hv
  clear hv
  go_enter Try.func32, Try.ntmps32
  go_wp2
  generalize w.alloc (.cells (rowOf (fun _ => .int .u8 0) n) 5) = w0 at *
  go_loopw [11] (fun i wr => ∃ j : Nat, j ≤ n ∧ i = .int .i64 j ∧ Blk wr w.heap.size 5 (rowOf (fun i => .int .u8 (showF xs j i)) n) ∧ Below w.heap.size w wr) (fun i _ => n - (intOf i).toNat)
  case atStart => exact ⟨0, by omega, rfl, hnew.out, hbel.out⟩
  case round =>
    obtain ⟨j, hj, rfl, hblk, hb⟩ := hrel
    clear hmk hnew hbel
    by_cases hlt : j < n
    · obtain ⟨b1, o1, e1, hB1, c1⟩ := hx.keep hb (by have := HN.out; omega)
      subst e1
      have d1 := c1 j (by have := HN.out; omega)
      have hv1 := HV.out j
      rw [List.getD_eq_getElem?_getD, List.getElem?_eq_getElem (by have := HN.out; omega), Option.getD_some] at hv1
      have hj0 : (0 : Int) ≤ (j : Int) := by omega
      have hjn : (j : Int) < (n : Int) := by omega
      have f0 := hblk.cell j
      rw [rowOf_get _ _ _ hlt] at f0
      have f1 := hblk.free j
      have HX : Hid (xs.getD j 0 = xs[j]'(by have := HN.out; omega)) := by unfold Hid; rw [List.getD_eq_getElem?_getD, List.getElem?_eq_getElem (by have := HN.out; omega), Option.getD_some]
      clear c1 hx
      generalize xs[j]'(by have := HN.out; omega) = x at *
      obtain ⟨v1, v2⟩ := hv1
      have HB := Lib.hid hblk
      clear hblk
      go_wp2_with (go_at_call 21; refine (ascii_any x v1 v2 _).mono ?_; rintro e w' ⟨rfl, rfl⟩)
      refine ⟨⟨j + 1, by omega, by go_num, ?_, hb.setCell (Nat.le_refl _) _⟩, by simp [intOf]; omega⟩
      have := HB.out.set j (.int .u8 (charI x))
      rw [rowOf_set (g := fun i => .int .u8 (showF xs (j + 1) i))] at this
      · exact this
      · simp only [showF, if_pos (Nat.lt_succ_self j)]; rw [HX.out]
      · intro i hi; simp only [showF]; congr 1; by_cases hij : i < j
        · rw [if_pos hij, if_pos (by omega)]
        · rw [if_neg hij, if_neg (by omega)]
    · have : j = n := by omega
      subst this
      have hcv := conv_row wr _ _ j _ _ hblk
      go_wp2
      go_ret
      have hd := show_done xs
      rw [HN.out] at hd
      exact ⟨by rw [← hd]; rfl, hb⟩

/-- The bytes of a string, as numbers. -/
def bytes (s : ByteArray) : List Nat := s.data.toList.map UInt8.toNat
theorem bytes_len (s : ByteArray) : (bytes s).length = s.size := by simp [bytes]
theorem bytes_at (s : ByteArray) (i : Nat) (h : i < s.size) : (bytes s)[i]? = some (s[i]'h).toNat := by
  unfold bytes; rw [List.getElem?_map, List.getElem?_eq_getElem (by simpa using h)]; rfl
theorem bytes_lt (s : ByteArray) (b : Nat) (h : b ∈ bytes s) : b < 256 := by
  unfold bytes at h; rw [List.mem_map] at h; obtain ⟨u, _, rfl⟩ := h; exact u.toNat_lt
theorem tw_stop {l : List Nat} {p : Nat → Bool} : ∀ {j : Nat}, (∀ i b, i < j → l[i]? = some b → p b = true) → (∀ b, l[j]? = some b → p b = false) → j ≤ l.length → (l.takeWhile p).length = j := by
  induction l with
  | nil => intro j _ _ h; simp at h; subst h; rfl
  | cons a l ih =>
    intro j h1 h2 h3
    cases j with
    | zero => have := h2 a rfl; simp [this]
    | succ j =>
      have ha := h1 0 a (by omega) rfl
      rw [List.takeWhile_cons, ha]
      simp only [if_true, List.length_cons]
      rw [ih (fun i b hi hb => h1 (i + 1) b (by omega) hb) (fun b hb => h2 b hb) (by simpa using h3)]
theorem tw_all {l : List Nat} {p : Nat → Bool} (h : ∀ i b, i < l.length → l[i]? = some b → p b = true) : l.takeWhile p = l := by
  have := tw_stop (l := l) (p := p) (j := l.length) (fun i b hi hb => h i b hi hb) (fun b hb => by simp at hb) (Nat.le_refl _)
  exact (List.takeWhile_sublist (l := l) p).eq_of_length this
def isChar (b : Nat) : Bool := decide (cellOf b < 64)
def lineAt (l : List Nat) : Nat := (l.takeWhile isChar).length
def lineE (l : List Nat) : Int := if lineAt l = l.length then 0 else 10
def lineCells (l : List Nat) : List Int := if lineAt l = l.length then l.map (fun b => ((cellOf b : Nat) : Int)) else []
def lineF (l : List Nat) (j i : Nat) : Int := if i < j then (cellOf (l.getD i 0) : Nat) else 0
theorem lineF_done (l : List Nat) (n : Nat) (hn : l.length = n) : (List.range n).map (lineF l n) = l.map (fun b => ((cellOf b : Nat) : Int)) := by
  subst hn
  apply List.ext_getElem
  · simp
  · intro i h1 h2
    simp at h1
    simp [lineF, h1]
theorem Seq.of_blk {w : World} {g n : Nat} {t : TypeId} {f : Nat → Int} {xs : List Int} (h : Blk w g t (rowOf (fun i => .int .u8 (f i)) n)) (hx : (List.range n).map f = xs) : Seq w w.heap.size (some ⟨g, 0, none⟩) xs := fun hl => by
  refine ⟨g, 0, rfl, h.lt, fun j hj => ?_⟩
  subst hx
  simp only [List.length_map, List.length_range] at hj
  rw [Nat.zero_add, h.cell j, rowOf_get _ _ _ hj]
  simp
/-- What Line returns. -/
def LineEnd (w : World) (l : List Nat) (e : Ending) (w' : World) : Prop :=
  ∃ A n k, e = .returned (.tuple #[.slice A n k, .int .i64 (lineAt l : Nat), .int .i64 (lineE l)]) ∧ (lineCells l).length = n ∧ Seq w' w'.heap.size A (lineCells l) ∧ (lineAt l = l.length → ∃ g : Nat, A = some ⟨g, 0, none⟩) ∧ Below w.heap.size w w'
set_option maxHeartbeats 400000 in
set_option maxRecDepth 10000 in
attribute [local irreducible] fillRow tabRow rowOf in
theorem line_any (s : ByteArray) (w : World) (hmax : s.size < 2 ^ 47) :
    Calls Try.prog 13 #[.string s] w (LineEnd w (bytes s)) := by
  have hz := zero52
  have hmk := make_cell
  have hsz : (fillRow 0).size = (tabRow 64).size := by rw [fillRow_size, tabRow_size]
  have HSZ := Lib.hid hsz
  have hi : Option.map (fun x => x.size) (Try.prog.info? 52) = some (tabRow 64).size := by rw [tabRow_size]; kernel_rfl
  have HI := Lib.hid hi
  clear hsz hi
  go_enter Try.func13, Try.ntmps13
  go_wp2_with fail
  refine (table_any _).mono ?_
  rintro e w1 ⟨rfl, hb1⟩
  go_wp2_with (first | (refine wpList_store_row rfl 52 (.tmp 5) (.tmp 9) rfl w1.heap.size (tabRow 64) rfl rfl 52 (fillRow 0) (heap_alloc_new _ _) HI.out HSZ.out (tabRow_one _) ?_; rw [World.setRow_alloc_new]))
  have hT : Hid (Blk ((w1.alloc (.cells (tabRow 64) 52)).alloc (.cells (rowOf (fun _ => .int .u8 0) s.size) 24)) w1.heap.size 52 (tabRow 64)) := heap_alloc2_old _ _ _
  have hR : Hid (Blk ((w1.alloc (.cells (tabRow 64) 52)).alloc (.cells (rowOf (fun _ => .int .u8 0) s.size) 24)) (w1.heap.size + 1) 24 (rowOf (fun _ => .int .u8 0) s.size)) := heap_alloc2_new _ _ _
  have hB : Hid (Below w.heap.size w ((w1.alloc (.cells (tabRow 64) 52)).alloc (.cells (rowOf (fun _ => .int .u8 0) s.size) 24))) := (hb1.alloc hb1.size _).alloc (by have := hb1.size; simp; omega) _
  have hs1 := hb1.size
  generalize (w1.alloc (.cells (tabRow 64) 52)).alloc (.cells (rowOf (fun _ => .int .u8 0) s.size) 24) = w0 at *
  clear hz hmk HSZ HI hb1
  generalize w1.heap.size = g at *
  go_loopw [15] (fun i wr => ∃ j : Nat, j ≤ s.size ∧ i = .int .i64 j ∧ (∀ i b, i < j → (bytes s)[i]? = some b → isChar b = true) ∧ Blk wr g 52 (tabRow 64) ∧ Blk wr (g + 1) 24 (rowOf (fun i => .int .u8 (lineF (bytes s) j i)) s.size) ∧ Below w.heap.size w wr) (fun i _ => s.size - (intOf i).toNat)
  case atStart => exact ⟨0, by omega, rfl, fun i b h => absurd h (by omega), hT.out, hR.out, hB.out⟩
  case round =>
    obtain ⟨j, hj, rfl, hgood, hblt, hblk, hb⟩ := hrel
    clear hT hR hB
    have HG := Lib.hid hgood
    clear hgood
    by_cases hlt : j < s.size
    · have hat := bytes_at s j hlt
      have HAT := Lib.hid hat
      have hx := bytes_lt s _ (List.mem_of_getElem? hat)
      clear hat
      have hj0 : (0 : Int) ≤ (j : Int) := by omega
      have hjn : (j : Int) < (s.size : Int) := by omega
      generalize hxe : (s[j]'hlt).toNat = x at *
      have HXE := Lib.hid hxe
      have f0 := hblt.cell x
      rw [tabRow_get 64 x hx, tabAt_full] at f0
      have f1 := hblk.free j
      have f2 := hblk.cell j
      rw [rowOf_get _ _ _ hlt] at f2
      have hle := cellOf_le x
      have HBL := Lib.hid hblk
      have HBT := Lib.hid hblt
      clear hblk hblt
      by_cases hc : cellOf x < 64
      · have hc63 : ((cellOf x : Nat) : Int) ≤ 63 := by omega
        go_wp2_with (go_at_call 17; refine (valid_any _ _).mono ?_; rintro e w' ⟨rfl, rfl⟩)
        refine ⟨⟨j + 1, by omega, by go_num, fun i b hi hb' => ?_, ?_, ?_, hb.setCell (by show w.heap.size ≤ g + 1; omega) _⟩, by simp [intOf]; omega⟩
        · rcases Nat.lt_or_ge i j with hij | hij
          · exact HG.out i b hij hb'
          · have : i = j := by omega
            subst this
            have := HAT.out; rw [hb'] at this; injection this with this; rw [this]; simpa [isChar] using hc
        · unfold Blk; rw [heap_setCell_other _ _ _ _ (by simp)]; exact HBT.out
        · have := HBL.out.set j (.int .u8 (cellOf x : Nat))
          rw [rowOf_set (g := fun i => .int .u8 (lineF (bytes s) (j + 1) i))] at this
          · exact this
          · simp only [lineF, if_pos (Nat.lt_succ_self j)]; rw [List.getD_eq_getElem?_getD, HAT.out, Option.getD_some]
          · intro i hi; simp only [lineF]; congr 1; by_cases hij : i < j
            · rw [if_pos hij, if_pos (by omega)]
            · rw [if_neg hij, if_neg (by omega)]
      · have hc63 : decide (((cellOf x : Nat) : Int) ≤ 63) = false := by simp; omega
        go_wp2_with (go_at_call 17; refine (valid_any _ _).mono ?_; rintro e w' ⟨rfl, rfl⟩)
        go_ret3
        have hat : lineAt (bytes s) = j := tw_stop HG.out (fun b hb' => by have := HAT.out; rw [hb'] at this; injection this with this; rw [this]; simpa [isChar] using hc) (by rw [bytes_len]; omega)
        have hne : ¬ lineAt (bytes s) = (bytes s).length := by rw [hat, bytes_len]; omega
        have hcs : lineCells (bytes s) = [] := if_neg hne
        refine ⟨none, 0, 0, ?_, by rw [hcs]; rfl, by rw [hcs]; exact Seq.nil, fun h => absurd h hne, hb⟩
        rw [hat, show lineE (bytes s) = 10 from if_neg hne]; rfl
    · have : j = s.size := by omega
      subst this
      go_wp2
      go_ret3
      have hall : lineAt (bytes s) = (bytes s).length := by
        have := tw_all (l := bytes s) (p := isChar) (fun i b hi hb' => HG.out i b (by rw [bytes_len] at hi; exact hi) hb')
        unfold lineAt; rw [this]
      have hcs : lineCells (bytes s) = (bytes s).map (fun b => ((cellOf b : Nat) : Int)) := if_pos hall
      refine ⟨some ⟨g + 1, 0, none⟩, s.size, s.size, ?_, by rw [hcs, List.length_map, bytes_len], by rw [hcs]; exact Seq.of_blk hblk (lineF_done _ _ (bytes_len s)), fun _ => ⟨_, rfl⟩, hb⟩
      rw [show lineE (bytes s) = 0 from if_pos hall, hall, bytes_len]; rfl
end Go.Proofs.Ytmbaebbhecfpdaa
