/- Package cell: Valid, Parse, Dots. -/
import Derived.Test.YtiedaongfjcbhabGreatDoorBase
namespace Go.Proofs.YtiedaongfjcbhabGreatDoor
open Go.RowKit

theorem valid_any (c : Int) (w : World) :
    Calls Tryz.prog 65 #[.int .u8 c] w fun e w' => e = .returned (.bool (decide (c ≤ 63))) ∧ w = w' := by
  go_enter Tryz.func65, Tryz.ntmps65
  go_wp2
  go_ret
  exact ⟨rfl, rfl⟩
def parseGo : List Nat → Nat → Nat → Option Nat
  | [], _, c => some c
  | b :: r, last, c => if b ≤ last ∨ 54 < b then none else parseGo r b (c ||| 2 ^ (b - 49))
def parse (l : List Nat) : Option Nat := if l = [48] then some 0 else if l = [] then none else parseGo l 48 0
def paC (l : List Nat) : Int := ((parse l).getD 0 : Nat)
def paE (l : List Nat) : Int := if (parse l).isSome then 0 else 10
theorem or_step (c x : Nat) (hc : c < 64) (h1 : 49 ≤ x) (h2 : x ≤ 54) :
    bits .or .u8 (c : Int) ((2 : Int) ^ (x - 49) % 256) = ((c ||| 2 ^ (x - 49) : Nat) : Int) ∧ c ||| 2 ^ (x - 49) < 64 := by
  have h := allB2_out (n := 64) (m := 6) (p := fun c k => decide (bits .or .u8 (c : Int) ((2 : Int) ^ k % 256) = ((c ||| 2 ^ k : Nat) : Int)) && decide (c ||| 2 ^ k < 64)) (by decide +kernel) c (x - 49) hc (by omega)
  simpa using h
theorem parseGo_step (l : List Nat) (j x last c : Nat) (h : l[j]? = some x) (hl : ¬ x ≤ last) (h2 : x ≤ 54) : parseGo (l.drop j) last c = parseGo (l.drop (j + 1)) x (c ||| 2 ^ (x - 49)) := by
  have hj : j < l.length := by
    rcases Nat.lt_or_ge j l.length with g | g
    · exact g
    · rw [List.getElem?_eq_none g] at h; cases h
  rw [List.drop_eq_getElem_cons hj]
  rw [List.getElem?_eq_getElem hj] at h
  injection h with h
  rw [h, parseGo, if_neg (by omega)]
theorem parseGo_stop (l : List Nat) (j x last c : Nat) (h : l[j]? = some x) (hl : x ≤ last ∨ 54 < x) : parseGo (l.drop j) last c = none := by
  have hj : j < l.length := by
    rcases Nat.lt_or_ge j l.length with g | g
    · exact g
    · rw [List.getElem?_eq_none g] at h; cases h
  rw [List.drop_eq_getElem_cons hj]
  rw [List.getElem?_eq_getElem hj] at h
  injection h with h
  rw [h, parseGo, if_pos hl]
set_option maxHeartbeats 400000 in
theorem parse_any (s : ByteArray) (w : World) (hmax : s.size < 2 ^ 47) :
    Calls Tryz.prog 64 #[.string s] w fun e w' => e = .returned (.tuple #[.int .u8 (paC (bytes s)), .int .i64 (paE (bytes s))]) ∧ Below w.heap.size w w' := by
  go_enter Tryz.func64, Tryz.ntmps64
  go_wp2
  · rename_i h
    have h := is48 h
    go_ret2
    exact ⟨ret_two (by rw [h]; rfl) (by rw [h]; rfl), Below.refl _ _⟩
  · rename_i h1 h
    have h := isNil h
    go_ret2
    exact ⟨ret_two (by rw [h]; rfl) (by rw [h]; rfl), Below.refl _ _⟩
  · have h1 : (s.toList == [48]) = false := by assumption
    have h2 : s.toList.isEmpty = false := by assumption
    have e1 := Lib.hid (not48 h1)
    have e2 := Lib.hid (notNil h2)
    clear h1 h2
    have hB : Hid (∀ p, Below w.heap.size w (w.iter s p)) := fun p => (Below.refl _ _).alloc (Nat.le_refl _) _
    go_loopw [4, 5] (fun cc ll wr => ∃ j c last : Nat, j ≤ s.size ∧ c < 64 ∧ 48 ≤ last ∧ last ≤ 54 ∧ cc = .int .u8 c ∧ ll = .int .i32 last ∧ parseGo (bytes s) 48 0 = parseGo ((bytes s).drop j) last c ∧ wr = w.iter s j) (fun _ _ wr => s.size - posOf wr)
    case atStart => exact ⟨0, 0, 48, by omega, by omega, by omega, by omega, rfl, rfl, rfl, rfl⟩
    case round =>
      obtain ⟨j, c, last, hj, hc, hl1, hl2, rfl, rfl, hgo, rfl⟩ := hrel
      have HGO := Lib.hid hgo
      clear hgo
      by_cases hlt : j < s.size
      · have hn := fun ty => run_next_any (P := Tryz.prog) w s j ty hlt
        obtain ⟨x, hx | hx⟩ := rune_of s j hlt
        · obtain ⟨hat, hx2, hd⟩ := hx
          rw [hd] at hn
          simp only at hn
          by_cases hst : x ≤ last ∨ 54 < x
          · have hz := parseGo_stop _ _ _ last c hat hst
            have HZ := Lib.hid hz
            clear hz
            have hp : parse (bytes s) = none := by rw [parse, if_neg e1.out, if_neg e2.out, HGO.out, HZ.out]
            have HP := Lib.hid hp
            clear hp
            rcases hst with hst | hst
            all_goals
              go_wp2
              go_ret2
              exact ⟨ret_two (by rw [paC, HP.out]; rfl) (by rw [paE, HP.out]; rfl), hB.out _⟩
          · have hs1 : ¬ x ≤ last := by omega
            have hs2 : x ≤ 54 := by omega
            have HZ := Lib.hid (parseGo_step _ _ _ last c hat hs1 hs2)
            obtain ⟨o1, o2⟩ := or_step c x hc (by omega) hs2
            have O1 := Lib.hid o1
            clear o1 hat
            go_wp2
            exact ⟨⟨j + 1, _, x, by omega, o2, by omega, hs2, by rw [O1.out], rfl, by rw [HGO.out, HZ.out], rfl⟩, by rw [posOf_iter, posOf_iter]; omega⟩
        · obtain ⟨y, hat, hy, hd, hx1, hx2⟩ := hx
          rw [hd] at hn
          have hp : parse (bytes s) = none := by rw [parse, if_neg e1.out, if_neg e2.out, HGO.out, parseGo_stop _ _ _ last c hat (by omega)]
          have HP := Lib.hid hp
          clear hp hat
          generalize (Utf8.decode s j).2 = wd at *
          have hx3 : 54 < x := by omega
          go_wp2
          go_ret2
          exact ⟨ret_two (by rw [paC, HP.out]; rfl) (by rw [paE, HP.out]; rfl), hB.out _⟩
      · have : j = s.size := by omega
        subst this
        have hn := fun ty => run_next_end (P := Tryz.prog) w s s.size ty hlt
        have hp : parse (bytes s) = some c := by rw [parse, if_neg e1.out, if_neg e2.out, HGO.out, List.drop_eq_nil_of_le (by rw [bytes_len]; exact Nat.le_refl _)]; rfl
        have HP := Lib.hid hp
        clear hp
        go_wp2
        go_ret2
        exact ⟨ret_two (by rw [paC, HP.out]; rfl) (by rw [paE, HP.out]; rfl), hB.out _⟩
/-- The digits of the first k dots of c. -/
def pre (c : Nat) : Nat → List Int
  | 0 => []
  | k + 1 => pre c k ++ (if c / 2 ^ k % 2 = 1 then [((49 + k : Nat) : Int)] else [])
def dotsText (c : Nat) : List Int := if pre c 6 = [] then [48] else pre c 6
theorem pre_len (c k : Nat) : (pre c k).length ≤ k := by
  induction k with
  | zero => simp [pre]
  | succ k ih => unfold pre; split <;> simp <;> omega
set_option maxRecDepth 10000 in
theorem bit_yes (c k : Nat) (hc : c < 64) (hk : k < 6) (h : c / 2 ^ k % 2 = 1) : (bits .and .u8 ((c : Int) / 2 ^ k) 1 == 1) = true := by
  have := allB2_out (n := 64) (m := 6) (p := fun c k => decide (c / 2 ^ k % 2 = 1) == (bits .and .u8 ((c : Int) / 2 ^ k) 1 == 1)) (by decide +kernel) c k hc hk
  simp only [h, decide_true] at this
  exact (eq_of_beq this).symm
set_option maxRecDepth 10000 in
theorem bit_no (c k : Nat) (hc : c < 64) (hk : k < 6) (h : ¬ c / 2 ^ k % 2 = 1) : (bits .and .u8 ((c : Int) / 2 ^ k) 1 == 1) = false := by
  have := allB2_out (n := 64) (m := 6) (p := fun c k => decide (c / 2 ^ k % 2 = 1) == (bits .and .u8 ((c : Int) / 2 ^ k) 1 == 1)) (by decide +kernel) c k hc hk
  simp only [h, decide_false] at this
  exact (eq_of_beq this).symm
set_option maxRecDepth 10000 in
set_option maxHeartbeats 400000 in
theorem dots_any (c : Nat) (hc : c < 64) (w : World) :
    Calls Tryz.prog 58 #[.int .u8 c] w fun e w' => e = .returned (.string (strOf (dotsText c))) ∧ Below w.heap.size w w' := by
  obtain ⟨i0, hi, hz0, hz1, hz2⟩ := info_parts info_u8
  go_enter Tryz.func58, Tryz.ntmps58
  go_wp2
  go_loopw [3, 5] (fun v i wr => ∃ k : Nat, k ≤ 6 ∧ i = .int .i64 k ∧ wr.ownsRow w.heap.size 5 1 v (pre c k).length ((pre c k).map (Value.int .u8)) ∧ Below w.heap.size w wr) (fun _ i _ => 6 - (intOf i).toNat)
  case atStart => exact ⟨0, by omega, rfl, World.ownsRow_nil _ _ _ _, Below.refl _ _⟩
  case round =>
    obtain ⟨k, hk, rfl, hown, hb⟩ := hrel
    have hl := pre_len c k
    by_cases hlt : k < 6
    · have HOWN := Lib.hid hown
      have hs1 := hb.size
      clear hown
      by_cases hbit : c / 2 ^ k % 2 = 1
      · have hy := bit_yes c k hc hlt hbit
        have HP : Hid (pre c (k + 1) = pre c k ++ [((49 + k : Nat) : Int)]) := by unfold Hid; rw [pre, if_pos hbit]
        clear hbit
        go_wp2_with (at_builtin; refine wpList_append_own _ rfl _ _ 48 rfl w.heap.size 5 i0 (.int .u8 0) 1 1 Tryz.underlying48 hi hz0 hz1 hz2 rfl (by decide) _ _ _ rfl (HOWN.out.alloc _) ⟨wr.heap.size, 0, none⟩ 1 1 [.int .u8 ((49 + k : Nat) : Int)] rfl rfl ?c1 ?c2 ?c3 ?c4 ?c5 ?_)
        case c1 => exact cell_one_new _ _ _
        case c2 => exact ints_oneCell .u8 [((49 + k : Nat) : Int)]
        case c3 => unfold maxLen; omega
        case c4 => omega
        case c5 => simp; omega
        intro v' w1 hown' hgrow _
        have hb1 : Below w.heap.size w w1 := (hb.alloc hs1 _).grown hgrow (by simp; omega) (fun g hg => (HOWN.out.lt g hg).1)
        have HO := Lib.hid hown'
        have HB1 := Lib.hid hb1
        clear hown' hgrow hb1
        go_wp2
        refine ⟨⟨k + 1, by omega, by go_num, ?_, HB1.out⟩, by simp [intOf]; omega⟩
        rw [HP.out]; have := HO.out; simpa using this
      · have hn := bit_no c k hc hlt hbit
        have HP : Hid (pre c (k + 1) = pre c k) := by unfold Hid; rw [pre, if_neg hbit, List.append_nil]
        clear hbit
        go_wp2
        exact ⟨⟨k + 1, by omega, by go_num, by rw [HP.out]; exact HOWN.out, hb⟩, by simp [intOf]; omega⟩
    · have : k = 6 := by omega
      subst this
      obtain ⟨hlen, hform⟩ := hown
      rcases hform with ⟨rfl, hn0⟩ | ⟨g, cap, cur, rfl, hg, hblk, hcap, hmax, hsz, htk⟩
      · have he : pre c 6 = [] := List.eq_nil_of_length_eq_zero hn0
        have HE := Lib.hid he
        clear hn0 he hlen hl
        go_wp2
        go_ret
        exact ⟨by rw [dotsText, if_pos HE.out]; rfl, hb⟩
      · by_cases he : pre c 6 = []
        · have HE := Lib.hid he
          have hn0 : (pre c 6).length = 0 := by rw [he]; rfl
          rw [hn0]
          clear hn0 he hlen hl hcap htk
          go_wp2
          go_ret
          exact ⟨by rw [dotsText, if_pos HE.out]; rfl, hb⟩
        · have HE := Lib.hid he
          have hpos : 0 < (pre c 6).length := List.length_pos_iff.2 he
          have hcv := conv_own wr w.heap.size g _ cap (pre c 6) rfl ⟨hlen, .inr ⟨g, cap, cur, rfl, hg, hblk, hcap, hmax, hsz, htk⟩⟩
          generalize hnn : (pre c 6).length = n at *
          clear hlen htk hblk hsz he hnn
          have hz : ((n : Int) == 0) = false := by simp; omega
          go_wp2
          go_ret
          exact ⟨by rw [dotsText, if_neg HE.out]; rfl, hb⟩
theorem parse_lit (s : ByteArray) (c e : Int) (hc : paC (bytes s) = c) (he : paE (bytes s) = e) (hs : s.size < 2 ^ 47) (w : World) :
    Calls Tryz.prog 64 #[.string s] w fun x w' => x = .returned (.tuple #[.int .u8 c, .int .i64 e]) ∧ Below w.heap.size w w' := by
  rw [← hc, ← he]; exact parse_any s w hs
theorem dots_lit (c : Nat) (t : ByteArray) (hc : c < 64) (ht : strOf (dotsText c) = t) (w : World) :
    Calls Tryz.prog 58 #[.int .u8 c] w fun x w' => x = .returned (.string t) ∧ Below w.heap.size w w' := by
  rw [← ht]; exact dots_any c hc w
end Go.Proofs.YtiedaongfjcbhabGreatDoor
