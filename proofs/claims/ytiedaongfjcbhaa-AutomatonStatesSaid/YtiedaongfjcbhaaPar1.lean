/- Package table: the reader's pieces. -/
import Derived.Test.YtiedaongfjcbhaaFmt4
import Derived.Lib.IndexLaws
namespace Go.Proofs.Ytiedaongfjcbhaa
open Go.RowKit

theorem gb_trans {w a b : World} {row : Option Nat} (h : w.grownBy a row) (k : a.grownBy b row) : w.grownBy b row :=
  ⟨k.os.trans h.os, k.tape.trans h.tape, k.output.trans h.output, Nat.le_trans h.size k.size, fun q hq hr => (k.block q (Nat.lt_of_lt_of_le hq h.size) hr).trans (h.block q hq hr)⟩
theorem gb_below {w a : World} (row : Option Nat) (h : Below w.heap.size w a) : w.grownBy a row := ⟨h.os, h.tape, h.output, h.size, fun q hq _ => h.block q hq⟩
theorem gb_setCell (w : World) (g i : Nat) (v : Value) : w.grownBy (w.setCell ⟨g, i, none⟩ v) (some g) :=
  ⟨rfl, rfl, rfl, by simp, fun q _ hr => Below.heap_setCell w ⟨g, i, none⟩ v q (fun e => hr (by rw [e]))⟩
theorem below_gb {B : Nat} {w a : World} {g : Nat} (h : w.grownBy a (some g)) (hB : B ≤ w.heap.size) (hg : B ≤ g) : Below B w a :=
  ⟨h.os, h.tape, h.output, h.size, fun q hq => h.block q (by omega) (fun e => by injection e with e; omega)⟩
theorem Blk.gb {w a : World} {g q : Nat} {t : TypeId} {row : Array Value} (h : Blk w q t row) (hg : w.grownBy a (some g)) (hne : q ≠ g) : Blk a q t row :=
  (hg.block q h.lt (fun e => by injection e with e; exact hne e)).trans h

/-- What stands ahead of the first c, and what behind it. -/
def cutAt (c : UInt8) : List UInt8 → Option (List UInt8 × List UInt8)
  | [] => none
  | b :: r => if b == c then some ([], r) else (cutAt c r).map fun pq => (b :: pq.1, pq.2)
def pieceL (c : UInt8) (l : List UInt8) : List UInt8 := match cutAt c l with | some pq => pq.1 | none => l
def restL (c : UInt8) (l : List UInt8) : List UInt8 := match cutAt c l with | some pq => pq.2 | none => []
def usedB (c : UInt8) (l : List UInt8) (u : Bool) : Bool := match cutAt c l with | some _ => u | none => true
theorem cutAt_none {c : UInt8} {l : List UInt8} (h : Lib.indexByte l c = -1) : cutAt c l = none := by
  induction l with
  | nil => rfl
  | cons b r ih =>
    unfold Lib.indexByte at h
    split at h
    · omega
    · rename_i hb
      split at h
      · rename_i h1
        unfold cutAt
        rw [if_neg hb, ih (by simpa using h1)]; rfl
      · have := Lib.indexByte_ge r c; omega
theorem cutAt_some {c : UInt8} : ∀ {l : List UInt8} {i : Nat}, Lib.indexByte l c = i → i < l.length ∧ cutAt c l = some (l.take i, l.drop (i + 1)) := by
  intro l
  induction l with
  | nil => intro i h; unfold Lib.indexByte at h; omega
  | cons b r ih =>
    intro i h
    unfold Lib.indexByte at h
    split at h
    · rename_i hb
      obtain rfl : i = 0 := by omega
      refine ⟨by simp, ?_⟩
      unfold cutAt; rw [if_pos hb]; simp
    · rename_i hb
      split at h
      · omega
      · obtain ⟨j, hj⟩ : ∃ j : Nat, Lib.indexByte r c = j := ⟨(Lib.indexByte r c).toNat, by have := Lib.indexByte_ge r c; rename_i h1; simp at h1; omega⟩
        obtain ⟨h1, h2⟩ := ih hj
        obtain rfl : i = j + 1 := by omega
        refine ⟨by simp; omega, ?_⟩
        unfold cutAt; rw [if_neg hb, h2]; simp
theorem strU_of (s : ByteArray) : strU s.data.toList = s := by cases s; simp [strU]
theorem strU_data (l : List UInt8) : (strU l).data.toList = l := by simp [strU]
theorem extract_take (s : ByteArray) (i : Nat) : s.extract 0 i = strU (s.data.toList.take i) := by
  apply ByteArray.ext
  apply Array.ext'
  simp [strU]
theorem extract_drop (s : ByteArray) (i : Nat) : s.extract i s.size = strU (s.data.toList.drop i) := by
  apply ByteArray.ext
  apply Array.ext'
  simp [strU]
  rw [List.take_of_length_le (by simp)]
theorem ret_str {a b : ByteArray} (h : a = b) : Ending.returned (.string a) = .returned (.string b) := by rw [h]
end Go.Proofs.Ytiedaongfjcbhaa
