/- Package table: the reader's pieces. -/
import Derived.Test.YtiedaongfjcbhabGreatDoorFmt4
import Derived.Lib.IndexLaws
namespace Go.Proofs.YtiedaongfjcbhabGreatDoor
open Go.RowKit

theorem gb_trans {w a b : World} {row : Option Nat} (h : w.grownBy a row) (k : a.grownBy b row) : w.grownBy b row :=
  ⟨k.os.trans h.os, k.tape.trans h.tape, k.output.trans h.output, Nat.le_trans h.size k.size, fun q hq hr => (k.block q (Nat.lt_of_lt_of_le hq h.size) hr).trans (h.block q hq hr)⟩
theorem gb_below {w a : World} (row : Option Nat) (h : Below w.heap.size w a) : w.grownBy a row := ⟨h.os, h.tape, h.output, h.size, fun q hq _ => h.block q hq⟩
theorem gb_setCell (w : World) (g i : Nat) (v : Value) : w.grownBy (w.setCell ⟨g, i, none⟩ v) (some g) :=
  ⟨rfl, rfl, rfl, by simp, fun q _ hr => Below.heap_setCell w ⟨g, i, none⟩ v q (fun e => hr (by rw [e]))⟩
theorem below_gb {B : Nat} {w a : World} {g : Nat} (h : w.grownBy a (some g)) (hB : B ≤ w.heap.size) (hg : B ≤ g) : Below B w a :=
  ⟨h.os, h.tape, h.output, h.size, fun q hq => h.block q (by omega) (fun e => by injection e with e; omega)⟩
theorem Blk.gb {w a : World} {g q : Nat} {t : TypeId} {row : Array Value} (h : Blk w q t row) (hg : w.grownBy a (some g)) (hne : q ≠ g) : Blk a q t row :=
  (hg.block q h.lt (fun e => by injection e with e; exact hne e)).trans h

/-- What stands ahead of the first c, and what behind it. -/
def cutAt (c : UInt8) : List UInt8 → Option (List UInt8 × List UInt8)
  | [] => none
  | b :: r => if b == c then some ([], r) else (cutAt c r).map fun pq => (b :: pq.1, pq.2)
def pieceL (c : UInt8) (l : List UInt8) : List UInt8 := match cutAt c l with | some pq => pq.1 | none => l
def restL (c : UInt8) (l : List UInt8) : List UInt8 := match cutAt c l with | some pq => pq.2 | none => []
def usedB (c : UInt8) (l : List UInt8) (u : Bool) : Bool := match cutAt c l with | some _ => u | none => true
theorem cutAt_none {c : UInt8} {l : List UInt8} (h : Lib.indexByte l c = -1) : cutAt c l = none := by
  induction l with
  | nil => rfl
  | cons b r ih =>
    unfold Lib.indexByte at h
    split at h
    · omega
    · rename_i hb
      split at h
      · rename_i h1
        unfold cutAt
        rw [if_neg hb, ih (by simpa using h1)]; rfl
      · have := Lib.indexByte_ge r c; omega
theorem cutAt_some {c : UInt8} : ∀ {l : List UInt8} {i : Nat}, Lib.indexByte l c = i → i < l.length ∧ cutAt c l = some (l.take i, l.drop (i + 1)) := by
  intro l
  induction l with
  | nil => intro i h; unfold Lib.indexByte at h; omega
  | cons b r ih =>
    intro i h
    unfold Lib.indexByte at h
    split at h
    · rename_i hb
      obtain rfl : i = 0 := by omega
      refine ⟨by simp, ?_⟩
      unfold cutAt; rw [if_pos hb]; simp
    · rename_i hb
      split at h
      · omega
      · obtain ⟨j, hj⟩ : ∃ j : Nat, Lib.indexByte r c = j := ⟨(Lib.indexByte r c).toNat, by have := Lib.indexByte_ge r c; rename_i h1; simp at h1; omega⟩
        obtain ⟨h1, h2⟩ := ih hj
        obtain rfl : i = j + 1 := by omega
        refine ⟨by simp; omega, ?_⟩
        unfold cutAt; rw [if_neg hb, h2]; simp
theorem strU_of (s : ByteArray) : strU s.data.toList = s := by cases s; simp [strU]
theorem strU_data (l : List UInt8) : (strU l).data.toList = l := by simp [strU]
theorem extract_take (s : ByteArray) (i : Nat) : s.extract 0 i = strU (s.data.toList.take i) := by
  apply ByteArray.ext
  apply Array.ext'
  simp [strU]
theorem extract_drop (s : ByteArray) (i : Nat) : s.extract i s.size = strU (s.data.toList.drop i) := by
  apply ByteArray.ext
  apply Array.ext'
  simp [strU]
  rw [List.take_of_length_le (by simp)]
theorem index_byte_any (s : ByteArray) (c : Int) (w : World) :
    Calls Tryz.prog 44 #[.string s, .int .u8 c] w fun e w' => e = .returned (.int .i64 (Lib.indexByte s.data.toList c.toNat.toUInt8)) ∧ w = w' :=
  (Tryz.strings_IndexByte s c w).mono fun _ _ h => ⟨h.1, h.2.symm⟩
theorem ret_str {a b : ByteArray} (h : a = b) : Ending.returned (.string a) = .returned (.string b) := by rw [h]
set_option maxRecDepth 10000 in
theorem piece_any (g : Nat) (t : TypeId) (s : ByteArray) (u : Bool) (tail : List Value) (c : UInt8) (w : World) (hblk : Blk w g t (.string s :: .bool u :: tail).toArray) (hmax : s.size < 2 ^ 40) :
    Calls Tryz.prog 21 #[.pointer (some ⟨g, 0, none⟩), .int .u8 (c.toNat : Nat)] w fun e w' => e = .returned (.string (strU (pieceL c s.data.toList))) ∧ Blk w' g t (.string (strU (restL c s.data.toList)) :: .bool (usedB c s.data.toList u) :: tail).toArray ∧ w.grownBy w' (some g) := by
  have f0 := hblk.cell 0
  have f1 := hblk.cell 1
  have z0 := hblk.free 0
  have z1 := hblk.free 1
  simp at f0 f1
  have HBLK := Lib.hid hblk
  clear hblk
  cases hi : (decide (Lib.indexByte s.data.toList c = -1)) with
  | true =>
    have hi := of_decide_eq_true hi
    have hk := Lib.hid (cutAt_none hi)
    have hc : Hid (Lib.indexByte s.data.toList ((c.toNat : Int)).toNat.toUInt8 = -1) := by unfold Hid; rw [Int.toNat_natCast]; simpa using hi
    clear hi
    go_enter Tryz.func21, Tryz.ntmps21
    go_wp2_with fail
    refine (index_byte_any s _ _).mono ?_
    rintro e _ ⟨rfl, rfl⟩
    rw [hc.out]
    go_wp2
    go_ret
    refine ⟨ret_str (by unfold pieceL; rw [hk.out, strU_of]), ?_, gb_trans (gb_setCell _ _ _ _) (gb_setCell _ _ _ _)⟩
    · have h1 := (HBLK.out.set 0 (.string ⟨#[]⟩)).set 1 (.bool true)
      unfold restL usedB
      rw [hk.out]
      simpa [strU] using h1
  | false =>
    have hi := of_decide_eq_false hi
    obtain ⟨i, hi2⟩ : ∃ i : Nat, Lib.indexByte s.data.toList c = i := ⟨(Lib.indexByte s.data.toList c).toNat, by have := Lib.indexByte_ge s.data.toList c; omega⟩
    obtain ⟨hil, hk⟩ := cutAt_some hi2
    have HK := Lib.hid hk
    have hc : Hid (Lib.indexByte s.data.toList ((c.toNat : Int)).toNat.toUInt8 = (i : Int)) := by unfold Hid; rw [Int.toNat_natCast]; simpa using hi2
    have hsz : i < s.size := by simpa using hil
    clear hi hi2 hil hk
    have hi0 : (0 : Int) ≤ (i : Int) := by omega
    have hi1 : (i : Int) ≤ (s.size : Int) := by omega
    have hi2 : (i : Int) + 1 ≤ (s.size : Int) := by omega
    go_enter Tryz.func21, Tryz.ntmps21
    go_wp2_with fail
    refine (index_byte_any s _ _).mono ?_
    rintro e _ ⟨rfl, rfl⟩
    rw [hc.out]
    go_wp2
    go_ret
    refine ⟨ret_str (by unfold pieceL; rw [HK.out, extract_take]), ?_, gb_setCell _ _ _ _⟩
    · have h1 := HBLK.out.set 0 (.string (s.extract (i + 1) s.size))
      unfold restL usedB
      rw [HK.out]
      rw [extract_drop] at h1
      simpa [extract_drop] using h1
end Go.Proofs.YtiedaongfjcbhabGreatDoor
