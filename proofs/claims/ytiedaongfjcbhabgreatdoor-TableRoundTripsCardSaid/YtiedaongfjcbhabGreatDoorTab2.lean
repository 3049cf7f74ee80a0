/- Package table: texts and clean texts; the reference's. -/
import Derived.Test.YtiedaongfjcbhabGreatDoorTab1
namespace Go.Proofs.YtiedaongfjcbhabGreatDoor
open Go.RowKit

def textAt (l : List Nat) : Nat := (l.takeWhile isCh).length
def textE (l : List Nat) : Int := if textAt l = l.length then 0 else 60
def isTextB (l : List Nat) : Bool := l.all isCh
theorem tw_len_all (l : List Nat) : ((l.takeWhile isCh).length = l.length) ↔ l.all isCh = true := by
  induction l with
  | nil => simp
  | cons a r ih =>
    rw [List.takeWhile_cons, List.all_cons]
    cases h : isCh a with
    | true => simpa using ih
    | false => simp
theorem textE_all (l : List Nat) : (textE l == 0) = isTextB l := by
  unfold textE isTextB textAt
  rw [Bool.eq_iff_iff, ← tw_len_all l]
  by_cases h : (l.takeWhile isCh).length = l.length <;> simp [h]
theorem textAt_le (l : List Nat) : textAt l ≤ l.length := (List.takeWhile_sublist (l := l) isCh).length_le
/-- Whether the first j bytes are characters. -/
def chTo (l : List Nat) (j : Nat) : Prop := ∀ i b, i < j → l[i]? = some b → isCh b = true
theorem chTo_step {l : List Nat} {j x : Nat} (h : chTo l j) (hx : l[j]? = some x) (hc : isCh x = true) : chTo l (j + 1) := by
  intro i b hi hb
  rcases Nat.lt_or_ge i j with g | g
  · exact h i b g hb
  · obtain rfl : i = j := by omega
    rw [hx] at hb; injection hb with hb; rw [← hb]; exact hc
theorem chTo_stop {l : List Nat} {j x : Nat} (h : chTo l j) (hx : l[j]? = some x) (hc : isCh x = false) : textAt l = j ∧ textE l = 60 := by
  have hj : j < l.length := by
    rcases Nat.lt_or_ge j l.length with g | g
    · exact g
    · rw [List.getElem?_eq_none g] at hx; cases hx
  have e : textAt l = j := tw_stop h (fun b hb => by rw [hx] at hb; injection hb with hb; rw [← hb]; exact hc) (by omega)
  exact ⟨e, by unfold textE; rw [if_neg (by omega)]⟩
theorem chTo_all {l : List Nat} (h : chTo l l.length) : textAt l = l.length ∧ textE l = 0 := by
  have e : textAt l = l.length := by unfold textAt; rw [tw_all h]
  exact ⟨e, by unfold textE; rw [if_pos e]⟩

set_option maxRecDepth 10000 in
theorem text_any (s : ByteArray) (w : World) (hmax : s.size < 2 ^ 48) :
    Calls Tryz.prog 11 #[.string s] w fun e w' => e = .returned (.tuple #[.int .i64 (textAt (bytes s) : Nat), .int .i64 (textE (bytes s))]) ∧ w = w' := by
  go_enter Tryz.func11, Tryz.ntmps11
  go_wp2
  go_loop [7] (fun i => ∃ j : Nat, j ≤ s.size ∧ i = .int .i64 j ∧ chTo (bytes s) j) (fun i => s.size - (intOf i).toNat)
  case atStart => exact ⟨0, by omega, rfl, fun i b h => absurd h (by omega)⟩
  case round =>
    obtain ⟨j, hj, rfl, hto⟩ := hrel
    have HTO := Lib.hid hto
    clear hto
    by_cases hlt : j < s.size
    · have HAT := Lib.hid (bytes_at s j hlt)
      have hx := bytes_lt s _ (List.mem_of_getElem? (bytes_at s j hlt))
      generalize hxe : (s[j]'hlt).toNat = x at *
      have HXE := Lib.hid hxe
      obtain ⟨c, hc⟩ : ∃ c, isCh x = c := ⟨_, rfl⟩
      have HC := Lib.hid hc
      clear hc
      go_wp2_with (go_at_call 28; refine (isCharacter_any _ (by omega) (by omega) _).mono ?_; rintro e w' ⟨rfl, rfl⟩; rw [show isChI x = c from HC.out]; cases c)
      · go_ret2
        obtain ⟨e1, e2⟩ := chTo_stop HTO.out HAT.out HC.out
        exact ⟨ret_two (by rw [e1]) (by rw [e2]), rfl⟩
      · refine ⟨⟨j + 1, by omega, by go_num, chTo_step HTO.out HAT.out HC.out⟩, by simp [intOf]; omega⟩
    · have : j = s.size := by omega
      subst this
      go_wp2
      go_ret2
      have h := HTO.out
      rw [← bytes_len] at h
      obtain ⟨e1, e2⟩ := chTo_all h
      exact ⟨ret_two (by rw [e1, bytes_len]) (by rw [e2]), rfl⟩
set_option maxRecDepth 10000 in
theorem rText_any (s : ByteArray) (w : World) (hmax : s.size < 2 ^ 48) :
    Calls Tryz.prog 80 #[.string s] w fun e w' => e = .returned (.tuple #[.int .i64 (textAt (bytes s) : Nat), .int .i64 (textE (bytes s))]) ∧ w = w' := by
  go_enter Tryz.func80, Tryz.ntmps80
  go_wp2
  go_loop [4] (fun i => ∃ j : Nat, j ≤ s.size ∧ i = .int .i64 j ∧ chTo (bytes s) j) (fun i => s.size - (intOf i).toNat)
  case atStart => exact ⟨0, by omega, rfl, fun i b h => absurd h (by omega)⟩
  case round =>
    obtain ⟨j, hj, rfl, hto⟩ := hrel
    have HTO := Lib.hid hto
    clear hto
    by_cases hlt : j < s.size
    · have HAT := Lib.hid (bytes_at s j hlt)
      have hx := bytes_lt s _ (List.mem_of_getElem? (bytes_at s j hlt))
      generalize hxe : (s[j]'hlt).toNat = x at *
      have HXE := Lib.hid hxe
      obtain ⟨c, hc⟩ : ∃ c, isCh x = c := ⟨_, rfl⟩
      have HC := Lib.hid hc
      clear hc
      go_wp2_with (go_at_call 91; refine (rCharacter_any _ (by omega) (by omega) _).mono ?_; rintro e w' ⟨rfl, rfl⟩; rw [show isChI x = c from HC.out]; cases c)
      · go_ret2
        obtain ⟨e1, e2⟩ := chTo_stop HTO.out HAT.out HC.out
        exact ⟨ret_two (by rw [e1]) (by rw [e2]), rfl⟩
      · refine ⟨⟨j + 1, by omega, by go_num, chTo_step HTO.out HAT.out HC.out⟩, by simp [intOf]; omega⟩
    · have : j = s.size := by omega
      subst this
      go_wp2
      go_ret2
      have h := HTO.out
      rw [← bytes_len] at h
      obtain ⟨e1, e2⟩ := chTo_all h
      exact ⟨ret_two (by rw [e1, bytes_len]) (by rw [e2]), rfl⟩
theorem isText_any (s : ByteArray) (w : World) (hmax : s.size < 2 ^ 48) :
    Calls Tryz.prog 29 #[.string s] w fun e w' => e = .returned (.bool (isTextB (bytes s))) ∧ w = w' := by
  have h := Lib.hid (textE_all (bytes s))
  go_enter Tryz.func29, Tryz.ntmps29
  go_wp2_with (go_at_call 11; refine (text_any s _ hmax).mono ?_; rintro e w' ⟨rfl, rfl⟩)
  go_ret
  exact ⟨ret_bool h.out, rfl⟩
theorem rIsText_any (s : ByteArray) (w : World) (hmax : s.size < 2 ^ 48) :
    Calls Tryz.prog 68 #[.string s] w fun e w' => e = .returned (.bool (isTextB (bytes s))) ∧ w = w' := by
  have h := Lib.hid (textE_all (bytes s))
  go_enter Tryz.func68, Tryz.ntmps68
  go_wp2_with (go_at_call 80; refine (rText_any s _ hmax).mono ?_; rintro e w' ⟨rfl, rfl⟩)
  go_ret
  exact ⟨ret_bool h.out, rfl⟩

/-- Whether spaces stand between words alone, behind a space or an edge. -/
def cleanGo (last : Bool) : List Nat → Bool
  | [] => !last
  | b :: r => if last && isSp b then false else cleanGo (isSp b) r
def cleanB (l : List Nat) : Bool := decide (l.length ≤ 400) && isTextB l && cleanGo true l
theorem drop_at {l : List Nat} {j x : Nat} (hx : l[j]? = some x) : l.drop j = x :: l.drop (j + 1) := by
  have hj : j < l.length := by
    rcases Nat.lt_or_ge j l.length with g | g
    · exact g
    · rw [List.getElem?_eq_none g] at hx; cases hx
  rw [List.drop_eq_getElem_cons hj]
  rw [List.getElem?_eq_getElem hj] at hx
  injection hx with hx
  rw [hx]
theorem cleanGo_stop {l : List Nat} {j x : Nat} {b : Bool} (h : cleanGo true l = cleanGo b (l.drop j)) (hx : l[j]? = some x) (hb : b = true) (hs : isSp x = true) : cleanGo true l = false := by
  rw [h, drop_at hx]; simp [cleanGo, hb, hs]
theorem cleanGo_step {l : List Nat} {j x : Nat} {b c : Bool} (h : cleanGo true l = cleanGo b (l.drop j)) (hx : l[j]? = some x) (hs : isSp x = c) (hbc : (b && c) = false) : cleanGo true l = cleanGo c (l.drop (j + 1)) := by
  rw [h, drop_at hx]; simp only [cleanGo, hs]; rw [hbc]; rfl
theorem cleanGo_end {l : List Nat} {b : Bool} (h : cleanGo true l = cleanGo b (l.drop l.length)) : cleanGo true l = !b := by
  rw [h, List.drop_eq_nil_of_le (Nat.le_refl _)]; rfl

set_option maxRecDepth 10000 in
theorem clean_any (s : ByteArray) (w : World) (hmax : s.size < 2 ^ 48) :
    Calls Tryz.prog 12 #[.string s] w fun e w' => e = .returned (.bool (cleanB (bytes s))) ∧ w = w' := by
  have hl := bytes_len s
  by_cases h4 : s.size ≤ 400
  · have HB : Hid (∀ b, cleanGo true (bytes s) = b → isTextB (bytes s) = true → b = cleanB (bytes s)) := fun b h1 h2 => by
      unfold cleanB; rw [h2, h1, show decide ((bytes s).length ≤ 400) = true from by simp; omega]; rfl
    have HN : Hid (isTextB (bytes s) = false → false = cleanB (bytes s)) := fun h1 => by
      unfold cleanB; rw [h1]; simp
    clear hl
    obtain ⟨t, ht⟩ : ∃ t, isTextB (bytes s) = t := ⟨_, rfl⟩
    have HT := Lib.hid ht
    clear ht
    go_enter Tryz.func12, Tryz.ntmps12
    go_wp2_with (go_at_call 29; refine (isText_any s _ hmax).mono ?_; rintro e w' ⟨rfl, rfl⟩; rw [HT.out]; cases t)
    · go_ret
      exact ⟨ret_bool (HN.out HT.out), rfl⟩
    · go_loop [3, 16] (fun la i => ∃ (j : Nat) (b : Bool), j ≤ s.size ∧ i = .int .i64 j ∧ la = .bool b ∧ cleanGo true (bytes s) = cleanGo b ((bytes s).drop j)) (fun _ i => s.size - (intOf i).toNat)
      case atStart => exact ⟨0, true, by omega, rfl, rfl, rfl⟩
      case round =>
        obtain ⟨j, b, hj, rfl, rfl, hgo⟩ := hrel
        have HGO := Lib.hid hgo
        clear hgo
        by_cases hlt : j < s.size
        · have HAT := Lib.hid (bytes_at s j hlt)
          have hx := bytes_lt s _ (List.mem_of_getElem? (bytes_at s j hlt))
          generalize hxe : (s[j]'hlt).toNat = x at *
          have HXE := Lib.hid hxe
          obtain ⟨c, hc⟩ : ∃ c, isSp x = c := ⟨_, rfl⟩
          have HC := Lib.hid hc
          clear hc
          go_wp2_with (go_at_call 30; refine (isSpace_any _ (by omega) (by omega) _).mono ?_; rintro e w' ⟨rfl, rfl⟩; rw [show isSpI x = c from HC.out]; cases b <;> cases c)
          · exact ⟨⟨j + 1, false, by omega, by go_num, rfl, cleanGo_step HGO.out HAT.out HC.out rfl⟩, by simp [intOf]; omega⟩
          · exact ⟨⟨j + 1, true, by omega, by go_num, rfl, cleanGo_step HGO.out HAT.out HC.out rfl⟩, by simp [intOf]; omega⟩
          · exact ⟨⟨j + 1, false, by omega, by go_num, rfl, cleanGo_step HGO.out HAT.out HC.out rfl⟩, by simp [intOf]; omega⟩
          · go_ret
            exact ⟨ret_bool (HB.out _ (cleanGo_stop HGO.out HAT.out rfl HC.out) HT.out), rfl⟩
        · have : j = s.size := by omega
          subst this
          have h := HGO.out
          rw [← bytes_len] at h
          have HE := Lib.hid (cleanGo_end h)
          clear h
          go_wp2
          go_ret
          exact ⟨ret_bool (HB.out _ HE.out HT.out), rfl⟩
  · have h5 : false = cleanB (bytes s) := by unfold cleanB; rw [show decide ((bytes s).length ≤ 400) = false from by simp; omega]; rfl
    have H5 := Lib.hid h5
    clear h5 hl
    go_enter Tryz.func12, Tryz.ntmps12
    go_wp2
    go_ret
    exact ⟨ret_bool H5.out, rfl⟩
end Go.Proofs.YtiedaongfjcbhabGreatDoor
