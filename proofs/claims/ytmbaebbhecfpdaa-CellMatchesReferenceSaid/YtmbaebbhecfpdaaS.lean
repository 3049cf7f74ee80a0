/- The reference implementation of package cell: texts. -/
import Derived.Test.YtmbaebbhecfpdaaR
import Derived.Test.YtmbaebbhecfpdaaL
namespace Go.Proofs.Ytmbaebbhecfpdaa
open Go.RowKit

def digB : ByteArray := ⟨#[48, 49, 50, 51, 52, 53, 54]⟩
theorem dig_step (xs : List Int) (k : Nat) (hk : k < 6) : strOf xs ++ digB.extract (k + 1) (k + 2) = strOf (xs ++ [((49 + k : Nat) : Int)]) := by
  have h : digB.extract (k + 1) (k + 2) = strOf [((49 + k : Nat) : Int)] := by
    have := allB_out (n := 6) (p := fun k => decide (digB.extract (k + 1) (k + 2) = strOf [((49 + k : Nat) : Int)])) (by decide +kernel) k hk
    exact of_decide_eq_true this
  rw [h]
  apply ByteArray.ext
  simp [strOf, ByteArray.data_append]
theorem strOf_size (l : List Int) : (strOf l).size = l.length := by simp [strOf, ByteArray.size]
theorem strOf_empty (l : List Int) : (strOf l).toList.isEmpty = l.isEmpty := by
  rw [ByteArray.toList_eq]; cases l <;> simp [strOf]
set_option maxHeartbeats 400000 in
theorem rDots_any (c : Nat) (hc : c < 64) (w : World) :
    Calls Try.prog 20 #[.int .u8 c] w fun e w' => e = .returned (.string (strOf (dotsText c))) ∧ w = w' := by
  go_enter Try.func20, Try.ntmps20
  go_wp2
  go_loop [3, 5] (fun o i => ∃ k : Nat, k ≤ 6 ∧ i = .int .i64 ((k : Int) + 1) ∧ o = .string (strOf (pre c k))) (fun _ i => 7 - (intOf i).toNat)
  case atStart => exact ⟨0, by omega, rfl, rfl⟩
  case round =>
    obtain ⟨k, hk, rfl, rfl⟩ := hrel
    by_cases hlt : k < 6
    · go_wp2_with fail
      refine (has_any c k hc hlt _).mono ?_
      rintro e _ ⟨rfl, rfl⟩
      by_cases hb : c / 2 ^ k % 2 = 1
      · have hP : Hid (pre c (k + 1) = pre c k ++ [((49 + k : Nat) : Int)]) := by unfold Hid; rw [pre, if_pos hb]
        have hh : hasB c k = true := by simp [hasB, hb]
        rw [hh]
        have hst := Lib.hid (dig_step (pre c k) k hlt)
        have hsz : (strOf (pre c k)).size ≤ 6 := by rw [strOf_size]; have := pre_len c k; omega
        clear hb hh
        generalize pre c k = xs at *
        go_wp2
        exact ⟨⟨k + 1, by omega, by go_num, by rw [hP.out, ← hst.out]; rfl⟩, by simp [intOf]; omega⟩
      · have hP : Hid (pre c (k + 1) = pre c k) := by unfold Hid; rw [pre, if_neg hb, List.append_nil]
        have hh : hasB c k = false := by simp [hasB, hb]
        rw [hh]
        clear hb hh
        go_wp2
        exact ⟨⟨k + 1, by omega, by go_num, by rw [hP.out]⟩, by simp [intOf]; omega⟩
    · have : k = 6 := by omega
      subst this
      by_cases he : pre c 6 = []
      · have HE := Lib.hid he
        have hem : (strOf (pre c 6)).toList.isEmpty = true := by rw [strOf_empty, he]; rfl
        clear he
        go_wp2
        go_ret
        exact ⟨by rw [dotsText, if_pos HE.out]; rfl, rfl⟩
      · have HE := Lib.hid he
        have hem : (strOf (pre c 6)).toList.isEmpty = false := by rw [strOf_empty]; simpa using he
        clear he
        go_wp2
        go_ret
        exact ⟨by rw [dotsText, if_neg HE.out]; rfl, rfl⟩

theorem parse_text (c : Nat) (hc : c < 64) : parse (bytes (strOf (dotsText c))) = some c := by
  have := allB_out (n := 64) (p := fun c => parse (bytes (strOf (dotsText c))) == some c) (by decide +kernel) c hc
  simpa using this
set_option maxHeartbeats 400000 in
theorem rParse_any (s : ByteArray) (w : World) :
    Calls Try.prog 12 #[.string s] w fun e w' => e = .returned (.tuple #[.int .u8 (paC (bytes s)), .int .i64 (paE (bytes s))]) ∧ w = w' := by
  go_enter Try.func12, Try.ntmps12
  go_wp2
  go_loop [4] (fun i => ∃ c : Nat, c ≤ 64 ∧ i = .int .u8 c ∧ ∀ j, j < c → ¬ strOf (dotsText j) = s) (fun i => 64 - (intOf i).toNat)
  case atStart => exact ⟨0, by omega, rfl, fun j h => absurd h (by omega)⟩
  case round =>
    obtain ⟨c, hc, rfl, hno⟩ := hrel
    have HNO := Lib.hid hno
    clear hno
    by_cases hlt : c < 64
    · go_wp2_with fail
      refine (rDots_any c hlt _).mono ?_
      rintro e _ ⟨rfl, rfl⟩
      by_cases hs : strOf (dotsText c) = s
      · have hp : parse (bytes s) = some c := by rw [← hs]; exact parse_text c hlt
        have HP := Lib.hid hp
        rw [hs]
        clear hs hp
        go_wp2
        go_ret2
        exact ⟨ret_two (by rw [paC, HP.out]; rfl) (by rw [paE, HP.out]; rfl), rfl⟩
      · have hne : ((strOf (dotsText c)).toList == s.toList) = false := by
          rw [beq_eq_false_iff_ne]; intro e
          rw [ByteArray.toList_eq, ByteArray.toList_eq] at e
          exact hs (ByteArray.ext (Array.toList_inj.1 e))
        have HS : Hid (∀ j, j = c → ¬ strOf (dotsText j) = s) := fun j e => by rw [e]; exact hs
        clear hs
        generalize strOf (dotsText c) = t at *
        go_wp2
        refine ⟨⟨c + 1, by omega, by go_num, fun j hj => ?_⟩, by simp [intOf]; omega⟩
        rcases Nat.lt_or_ge j c with h | h
        · exact HNO.out j h
        · exact HS.out j (by omega)
    · have : c = 64 := by omega
      subst this
      have hp : parse (bytes s) = none := by
        cases hq : parse (bytes s) with
        | none => rfl
        | some r =>
          obtain ⟨hr, ht⟩ := parse_sound _ r hq
          exact absurd (by rw [ht, strOf_bytes]) (HNO.out r hr)
      have HP := Lib.hid hp
      clear hp
      go_wp2
      go_ret2
      exact ⟨ret_two (by rw [paC, HP.out]; rfl) (by rw [paE, HP.out]; rfl), rfl⟩

set_option maxHeartbeats 400000 in
theorem rFromAscii_any (b : Nat) (_hb : b < 256) (w : World) :
    Calls Try.prog 10 #[.int .u8 b] w fun e w' => e = .returned (.tuple #[.int .u8 (faC b), .int .i64 (faE b)]) ∧ w = w' := by
  go_enter Try.func10, Try.ntmps10
  go_wp2
  go_loop [4] (fun i => ∃ c : Nat, c ≤ 64 ∧ i = .int .u8 c ∧ ¬ cellOf b < c) (fun i => 64 - (intOf i).toNat)
  case atStart => exact ⟨0, by omega, rfl, by omega⟩
  case round =>
    obtain ⟨c, hc, rfl, hno⟩ := hrel
    have HNO := Lib.hid hno
    clear hno
    by_cases hlt : c < 64
    · go_wp2_with fail
      refine (rAscii_any c hlt _).mono ?_
      rintro e _ ⟨rfl, rfl⟩
      have hcc := cellOf_char c hlt
      by_cases hs : cellOf b = c
      · have hch : charI c = b := by rw [← hs]; exact char_of b (by omega)
        have HS := Lib.hid hs
        rw [hch]
        clear hs hch hcc
        go_wp2
        go_ret2
        exact ⟨ret_two (by rw [faC, if_pos (by rw [HS.out]; exact hlt), HS.out]) (by rw [faE, if_pos (by rw [HS.out]; exact hlt)]), rfl⟩
      · have hne : (charI c == (b : Int)) = false := by
          rw [beq_eq_false_iff_ne]; intro e
          unfold charI at e
          rw [Int.toNat_natCast] at e
          have : chars.getD c 0 = b := by omega
          rw [this] at hcc; exact hs hcc
        have HS := Lib.hid hs
        clear hs hcc
        generalize charI c = t at *
        go_wp2
        exact ⟨⟨c + 1, by omega, by go_num, by have := HNO.out; have := HS.out; omega⟩, by simp [intOf]; omega⟩
    · have : c = 64 := by omega
      subst this
      go_wp2
      go_ret2
      exact ⟨ret_two (by rw [faC, if_neg HNO.out]) (by rw [faE, if_neg HNO.out]), rfl⟩

/-- What the reference's Line returns. -/
def LineEnd2 (w : World) (l : List Nat) (e : Ending) (w' : World) : Prop :=
  ∃ A n k, e = .returned (.tuple #[.slice A n k, .int .i64 (lineAt l : Nat), .int .i64 (lineE l)]) ∧ (lineCells l).length = n ∧ Seq w' w'.heap.size A (lineCells l) ∧ Below w.heap.size w w'
def cellsUp (l : List Nat) (k : Nat) : List Int := (l.take k).map fun b => ((cellOf b : Nat) : Int)
theorem cellsUp_step (l : List Nat) (k b : Nat) (h : l[k]? = some b) : cellsUp l (k + 1) = cellsUp l k ++ [((cellOf b : Nat) : Int)] := by
  have hk : k < l.length := by
    rcases Nat.lt_or_ge k l.length with g | g
    · exact g
    · rw [List.getElem?_eq_none g] at h; cases h
  rw [List.getElem?_eq_getElem hk] at h
  injection h with h
  unfold cellsUp
  rw [List.take_succ_eq_append_getElem hk, List.map_append, h]; rfl
set_option maxHeartbeats 400000 in
theorem rLine_any (s : ByteArray) (w : World) (hmax : s.size < 2 ^ 40) :
    Calls Try.prog 14 #[.string s] w (LineEnd2 w (bytes s)) := by
  obtain ⟨i0, hi, hz0, hz1, hz2⟩ := info_parts info_cell
  go_enter Try.func14, Try.ntmps14
  go_wp2
  have hown0 : Hid ((w.alloc (.cells #[] 24)).ownsRow w.heap.size 24 1 (.slice (some ⟨w.heap.size, 0, none⟩) 0 0) 0 []) := World.ownsRow_lit w #[] 0 (Nat.le_refl _) (by simp [maxLen]) rfl
  have hb0 : Hid (Below w.heap.size w (w.alloc (.cells #[] 24))) := (Below.refl _ _).alloc (Nat.le_refl _) _
  go_loopw [5, 6] (fun v i wr => ∃ j : Nat, j ≤ s.size ∧ i = .int .i64 j ∧ (∀ i b, i < j → (bytes s)[i]? = some b → isChar b = true) ∧ wr.ownsRow w.heap.size 24 1 v j ((cellsUp (bytes s) j).map (Value.int .u8)) ∧ Below w.heap.size w wr) (fun _ i _ => s.size - (intOf i).toNat)
  case atStart => exact ⟨0, by omega, rfl, fun i b h => absurd h (by omega), hown0.out, hb0.out⟩
  case round =>
    obtain ⟨j, hj, rfl, hgood, hown, hb⟩ := hrel
    clear hown0 hb0
    have HG := Lib.hid hgood
    have HOWN := Lib.hid hown
    have hs1 := hb.size
    clear hgood hown
    by_cases hlt : j < s.size
    · have hat := bytes_at s j hlt
      have HAT := Lib.hid hat
      have hx := bytes_lt s _ (List.mem_of_getElem? hat)
      have HP := Lib.hid (cellsUp_step _ _ _ hat)
      clear hat
      have hj0 : (0 : Int) ≤ (j : Int) := by omega
      have hjn : (j : Int) < (s.size : Int) := by omega
      generalize hxe : (s[j]'hlt).toNat = x at *
      go_wp2_with fail
      refine (rFromAscii_any x hx _).mono ?_
      rintro e _ ⟨rfl, rfl⟩
      by_cases hc : cellOf x < 64
      · have q1 : faC x = cellOf x := if_pos hc
        have q2 : faE x = 0 := if_pos hc
        rw [q1, q2]
        clear q1 q2
        go_wp2_with (at_builtin; refine wpList_append_own _ rfl _ _ 29 rfl w.heap.size 24 i0 (.int .u8 0) 1 1 Try.underlying29 hi hz0 hz1 hz2 rfl (by decide) _ _ _ rfl (HOWN.out.alloc _) ⟨wr.heap.size, 0, none⟩ 1 1 [.int .u8 (cellOf x : Nat)] rfl rfl ?c1 ?c2 ?c3 ?c4 ?c5 ?_)
        case c1 => exact cell_one_new _ _ _
        case c2 => exact ints_oneCell .u8 [((cellOf x : Nat) : Int)]
        case c3 => unfold maxLen; omega
        case c4 => omega
        case c5 => simp; omega
        intro v' w1 hown' hgrow _
        have hb1 : Below w.heap.size w w1 := (hb.alloc hs1 _).grown hgrow (by simp; omega) (fun g hg => (HOWN.out.lt g hg).1)
        have HO := Lib.hid hown'
        have HB1 := Lib.hid hb1
        clear hown' hgrow hb1
        go_wp2
        refine ⟨⟨j + 1, by omega, by go_num, fun i b hi hb' => ?_, ?_, HB1.out⟩, by simp [intOf]; omega⟩
        · rcases Nat.lt_or_ge i j with hij | hij
          · exact HG.out i b hij hb'
          · have : i = j := by omega
            subst this
            have := HAT.out; rw [hb'] at this; injection this with this; rw [this]; simpa [isChar] using hc
        · rw [HP.out]; have := HO.out; simpa using this
      · have q2 : faE x = 10 := if_neg hc
        rw [q2]
        clear q2
        generalize faC x = y at *
        go_wp2
        go_ret3
        have hat : lineAt (bytes s) = j := tw_stop HG.out (fun b hb' => by have := HAT.out; rw [hb'] at this; injection this with this; rw [this]; simpa [isChar] using hc) (by rw [bytes_len]; omega)
        have hne : ¬ lineAt (bytes s) = (bytes s).length := by rw [hat, bytes_len]; omega
        have hcs : lineCells (bytes s) = [] := if_neg hne
        refine ⟨none, 0, 0, ?_, by rw [hcs]; rfl, by rw [hcs]; exact Seq.nil, hb⟩
        rw [hat, show lineE (bytes s) = 10 from if_neg hne]; rfl
    · have : j = s.size := by omega
      subst this
      obtain ⟨A, c, rfl, hcl, hseq⟩ := own_slice HOWN.out
      have HSEQ := Lib.hid hseq
      clear hseq hcl HOWN
      go_wp2
      go_ret3
      have hall : lineAt (bytes s) = (bytes s).length := by
        have := tw_all (l := bytes s) (p := isChar) (fun i b hi hb' => HG.out i b (by rw [bytes_len] at hi; exact hi) hb')
        unfold lineAt; rw [this]
      have hcs : lineCells (bytes s) = cellsUp (bytes s) s.size := by
        rw [lineCells, if_pos hall, cellsUp, List.take_of_length_le (by rw [bytes_len]; exact Nat.le_refl _)]
      refine ⟨A, s.size, c, ?_, by rw [lineCells, if_pos hall, List.length_map, bytes_len], by rw [hcs]; exact HSEQ.out, hb⟩
      rw [show lineE (bytes s) = 0 from if_pos hall, hall, bytes_len]; rfl
end Go.Proofs.Ytmbaebbhecfpdaa
