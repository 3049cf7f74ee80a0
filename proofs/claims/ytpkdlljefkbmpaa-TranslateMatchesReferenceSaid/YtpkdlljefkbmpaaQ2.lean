/- Merged by program: Tab1 Tab2 Tab3 -/
import Derived.Test.YtpkdlljefkbmpaaQ1

/-! Package table: classes and texts; the reference's. -/
namespace Go.Proofs.Ytpkdlljefkbmpaa
open Go.RowKit

def clsI (b : Int) : Int := if 97 ≤ b % 128 ∧ b % 128 ≤ 122 then 1 else if 65 ≤ b % 128 ∧ b % 128 ≤ 90 then 2 else if 48 ≤ b % 128 ∧ b % 128 ≤ 57 then 3 else if b % 128 = 32 then 4 else 5
def isChI (b : Int) : Bool := decide (32 ≤ b % 128) && decide (b % 128 ≤ 126)
def isSpI (b : Int) : Bool := decide (b % 128 = 32)
def isCh (b : Nat) : Bool := isChI b
def isSp (b : Nat) : Bool := isSpI b
set_option maxRecDepth 10000 in
theorem pl_byte (b : Int) (h0 : 0 ≤ b) (hb : b < 256) : bits .and .u8 b 127 = b % 128 := by
 have h := allB_int (n := 256) (p := fun b => decide (bits .and .u8 (b : Int) 127 = (b : Int) % 128)) (by decide +kernel) b h0 hb
 rw [show ((b.toNat : Nat) : Int) = b from by omega] at h
 exact of_decide_eq_true h
theorem cls_of {b c : Int} (h : clsI b = c) : Ending.returned (.int .i64 c) = .returned (.int .i64 (clsI b)) := by rw [h]

theorem class_any (b : Int) (h0 : 0 ≤ b) (hb : b < 256) (w : World) :
  Calls Try.prog 161 #[.int .u8 b] w fun e w' => e = .returned (.int .i64 (clsI b)) ∧ w = w' := by
 have hp := pl_byte b h0 hb
 go_enter Try.func161, Try.ntmps161
 go_wp2
 all_goals
  go_ret
  exact ⟨cls_of (by unfold clsI; (try simp only [beq_iff_eq, beq_eq_false_iff_ne, ne_eq] at *); (repeat' split) <;> omega), rfl⟩
theorem rClass_any (b : Int) (h0 : 0 ≤ b) (hb : b < 256) (w : World) :
  Calls Try.prog 81 #[.int .u8 b] w fun e w' => e = .returned (.int .i64 (clsI b)) ∧ w = w' := by
 have hp := pl_byte b h0 hb
 go_enter Try.func81, Try.ntmps81
 go_wp2
 all_goals
  go_ret
  exact ⟨cls_of (by unfold clsI; (try simp only [beq_iff_eq, beq_eq_false_iff_ne, ne_eq] at *); (repeat' split) <;> omega), rfl⟩
theorem isCharacter_any (b : Int) (h0 : 0 ≤ b) (hb : b < 256) (w : World) :
  Calls Try.prog 116 #[.int .u8 b] w fun e w' => e = .returned (.bool (isChI b)) ∧ w = w' := by
 have hp := pl_byte b h0 hb
 go_enter Try.func116, Try.ntmps116
 go_wp2
 all_goals
  go_ret
  exact ⟨ret_bool (by unfold isChI; first | (simp [*]; done) | (simp; omega)), rfl⟩
theorem rCharacter_any (b : Int) (h0 : 0 ≤ b) (hb : b < 256) (w : World) :
  Calls Try.prog 79 #[.int .u8 b] w fun e w' => e = .returned (.bool (isChI b)) ∧ w = w' := by
 have hp := pl_byte b h0 hb
 go_enter Try.func79, Try.ntmps79
 go_wp2
 all_goals
  go_ret
  exact ⟨ret_bool (by unfold isChI; first | (simp [*]; done) | (simp; omega)), rfl⟩
theorem rSpace_any (b : Int) (h0 : 0 ≤ b) (hb : b < 256) (w : World) :
  Calls Try.prog 163 #[.int .u8 b] w fun e w' => e = .returned (.bool (isSpI b)) ∧ w = w' := by
 have hp := pl_byte b h0 hb
 go_enter Try.func163, Try.ntmps163
 go_wp2
 all_goals
  go_ret
  exact ⟨ret_bool (by unfold isSpI; rw [Bool.eq_iff_iff]; simp), rfl⟩
theorem cls_sp (b : Int) : (clsI b == 4) = isSpI b := by
 unfold clsI isSpI
 by_cases h : b % 128 = 32
 ·
  simp [h]
 ·
  rw [show decide (b % 128 = 32) = false from by simp [h], if_neg h]; (repeat' split) <;> rfl
theorem isSpace_any (b : Int) (h0 : 0 ≤ b) (hb : b < 256) (w : World) :
  Calls Try.prog 189 #[.int .u8 b] w fun e w' => e = .returned (.bool (isSpI b)) ∧ w = w' := by
 have h := Lib.hid (cls_sp b)
 go_enter Try.func189, Try.ntmps189
 go_wp2_with (go_at_call 161; refine (class_any _ h0 hb _).mono ?_; rintro e w' ⟨rfl, rfl⟩)
 go_ret
 exact ⟨ret_bool h.out, rfl⟩
end Go.Proofs.Ytpkdlljefkbmpaa

/-! Package table: texts and clean texts; the reference's. -/
namespace Go.Proofs.Ytpkdlljefkbmpaa
open Go.RowKit

def textAt (l : List Nat) : Nat := (l.takeWhile isCh).length
def textE (l : List Nat) : Int := if textAt l = l.length then 0 else 60
def isTextB (l : List Nat) : Bool := l.all isCh
theorem tw_len_all (l : List Nat) : ((l.takeWhile isCh).length = l.length) ↔ l.all isCh = true := by
 induction l with
 | nil => simp
 | cons a r ih =>
  rw [List.takeWhile_cons, List.all_cons]
  cases h : isCh a with
  | true => simpa using ih
  | false => simp
theorem textE_all (l : List Nat) : (textE l == 0) = isTextB l := by
 unfold textE isTextB textAt
 rw [Bool.eq_iff_iff, ← tw_len_all l]
 by_cases h : (l.takeWhile isCh).length = l.length <;> simp [h]
def chTo (l : List Nat) (j : Nat) : Prop := ∀ i b, i < j → l[i]? = some b → isCh b = true
theorem chTo_step {l : List Nat} {j x : Nat} (h : chTo l j) (hx : l[j]? = some x) (hc : isCh x = true) : chTo l (j + 1) := by
 intro i b hi hb
 rcases Nat.lt_or_ge i j with g | g
 ·
  exact h i b g hb
 ·
  obtain rfl : i = j := by omega
  rw [hx] at hb; injection hb with hb; rw [← hb]; exact hc
theorem chTo_stop {l : List Nat} {j x : Nat} (h : chTo l j) (hx : l[j]? = some x) (hc : isCh x = false) : textAt l = j ∧ textE l = 60 := by
 have hj : j < l.length := by
  rcases Nat.lt_or_ge j l.length with g | g
  ·
   exact g
  ·
   rw [List.getElem?_eq_none g] at hx; cases hx
 have e : textAt l = j := tw_stop h (fun b hb => by rw [hx] at hb; injection hb with hb; rw [← hb]; exact hc) (by omega)
 exact ⟨e, by unfold textE; rw [if_neg (by omega)]⟩
theorem chTo_all {l : List Nat} (h : chTo l l.length) : textAt l = l.length ∧ textE l = 0 := by
 have e : textAt l = l.length := by unfold textAt; rw [tw_all h]
 exact ⟨e, by unfold textE; rw [if_pos e]⟩

set_option maxRecDepth 10000 in
theorem text_any (s : ByteArray) (w : World) (hmax : s.size < 2 ^ 48) :
  Calls Try.prog 69 #[.string s] w fun e w' => e = .returned (.tuple #[.int .i64 (textAt (bytes s) : Nat), .int .i64 (textE (bytes s))]) ∧ w = w' := by
 go_enter Try.func69, Try.ntmps69
 go_wp2
 go_loop [7] (fun i => ∃ j : Nat, j ≤ s.size ∧ i = .int .i64 j ∧ chTo (bytes s) j) (fun i => s.size - (intOf i).toNat)
 case atStart => exact ⟨0, by omega, rfl, fun i b h => absurd h (by omega)⟩
 case round =>
  obtain ⟨j, hj, rfl, hto⟩ := hrel
  have HTO := Lib.hid hto
  clear hto
  by_cases hlt : j < s.size
  ·
   have HAT := Lib.hid (bytes_at s j hlt)
   have hx := bytes_lt s _ (List.mem_of_getElem? (bytes_at s j hlt))
   generalize hxe : (s[j]'hlt).toNat = x at *
   have HXE := Lib.hid hxe
   obtain ⟨c, hc⟩ : ∃ c, isCh x = c := ⟨_, rfl⟩
   have HC := Lib.hid hc
   clear hc
   go_wp2_with (go_at_call 116; refine (isCharacter_any _ (by omega) (by omega) _).mono ?_; rintro e w' ⟨rfl, rfl⟩; rw [show isChI x = c from HC.out]; cases c)
   ·
    go_ret2
    obtain ⟨e1, e2⟩ := chTo_stop HTO.out HAT.out HC.out
    exact ⟨ret_two (by rw [e1]) (by rw [e2]), rfl⟩
   ·
    refine ⟨⟨j + 1, by omega, by go_num, chTo_step HTO.out HAT.out HC.out⟩, by simp [intOf]; omega⟩
  ·
   have : j = s.size := by omega
   subst this
   go_wp2
   go_ret2
   have h := HTO.out
   rw [← bytes_len] at h
   obtain ⟨e1, e2⟩ := chTo_all h
   exact ⟨ret_two (by rw [e1, bytes_len]) (by rw [e2]), rfl⟩
set_option maxRecDepth 10000 in
theorem rText_any (s : ByteArray) (w : World) (hmax : s.size < 2 ^ 48) :
  Calls Try.prog 37 #[.string s] w fun e w' => e = .returned (.tuple #[.int .i64 (textAt (bytes s) : Nat), .int .i64 (textE (bytes s))]) ∧ w = w' := by
 go_enter Try.func37, Try.ntmps37
 go_wp2
 go_loop [4] (fun i => ∃ j : Nat, j ≤ s.size ∧ i = .int .i64 j ∧ chTo (bytes s) j) (fun i => s.size - (intOf i).toNat)
 case atStart => exact ⟨0, by omega, rfl, fun i b h => absurd h (by omega)⟩
 case round =>
  obtain ⟨j, hj, rfl, hto⟩ := hrel
  have HTO := Lib.hid hto
  clear hto
  by_cases hlt : j < s.size
  ·
   have HAT := Lib.hid (bytes_at s j hlt)
   have hx := bytes_lt s _ (List.mem_of_getElem? (bytes_at s j hlt))
   generalize hxe : (s[j]'hlt).toNat = x at *
   have HXE := Lib.hid hxe
   obtain ⟨c, hc⟩ : ∃ c, isCh x = c := ⟨_, rfl⟩
   have HC := Lib.hid hc
   clear hc
   go_wp2_with (go_at_call 79; refine (rCharacter_any _ (by omega) (by omega) _).mono ?_; rintro e w' ⟨rfl, rfl⟩; rw [show isChI x = c from HC.out]; cases c)
   ·
    go_ret2
    obtain ⟨e1, e2⟩ := chTo_stop HTO.out HAT.out HC.out
    exact ⟨ret_two (by rw [e1]) (by rw [e2]), rfl⟩
   ·
    refine ⟨⟨j + 1, by omega, by go_num, chTo_step HTO.out HAT.out HC.out⟩, by simp [intOf]; omega⟩
  ·
   have : j = s.size := by omega
   subst this
   go_wp2
   go_ret2
   have h := HTO.out
   rw [← bytes_len] at h
   obtain ⟨e1, e2⟩ := chTo_all h
   exact ⟨ret_two (by rw [e1, bytes_len]) (by rw [e2]), rfl⟩
theorem isText_any (s : ByteArray) (w : World) (hmax : s.size < 2 ^ 48) :
  Calls Try.prog 170 #[.string s] w fun e w' => e = .returned (.bool (isTextB (bytes s))) ∧ w = w' := by
 have h := Lib.hid (textE_all (bytes s))
 go_enter Try.func170, Try.ntmps170
 go_wp2_with (go_at_call 69; refine (text_any s _ hmax).mono ?_; rintro e w' ⟨rfl, rfl⟩)
 go_ret
 exact ⟨ret_bool h.out, rfl⟩
theorem rIsText_any (s : ByteArray) (w : World) (hmax : s.size < 2 ^ 48) :
  Calls Try.prog 44 #[.string s] w fun e w' => e = .returned (.bool (isTextB (bytes s))) ∧ w = w' := by
 have h := Lib.hid (textE_all (bytes s))
 go_enter Try.func44, Try.ntmps44
 go_wp2_with (go_at_call 37; refine (rText_any s _ hmax).mono ?_; rintro e w' ⟨rfl, rfl⟩)
 go_ret
 exact ⟨ret_bool h.out, rfl⟩

end Go.Proofs.Ytpkdlljefkbmpaa

/-! The reference of package table: clean texts. -/
namespace Go.Proofs.Ytpkdlljefkbmpaa
open Go.RowKit

end Go.Proofs.Ytpkdlljefkbmpaa
