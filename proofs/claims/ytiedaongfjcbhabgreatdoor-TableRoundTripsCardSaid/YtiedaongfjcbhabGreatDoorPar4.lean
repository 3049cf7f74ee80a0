/- Package table: what a rule prints, read. -/
import Derived.Test.YtiedaongfjcbhabGreatDoorPar3
namespace Go.Proofs.YtiedaongfjcbhabGreatDoor
open Go.RowKit

def hexD : List UInt8 := [48, 49, 50, 51, 52, 53, 54, 55, 56, 57, 97, 98, 99, 100, 101, 102]
def hexV (l : List UInt8) (i : Nat) : Int := Lib.indexByte hexD (l.getD i 0)
def hexOk (l : List UInt8) (i : Nat) : Bool := decide (0 ≤ hexV l (2 * i)) && decide (0 ≤ hexV l (2 * i + 1))
def hexW (l : List UInt8) (i : Nat) : Int := hexV l (2 * i) * 16 + hexV l (2 * i + 1)
/-- The bytes that a field spells in pairs of digits. -/
def prOf (l : List UInt8) : Option (List Int) := if l = [46] then some [] else if l = [] then none else if l.length % 2 = 1 then none else if (List.range (l.length / 2)).all (hexOk l) then some ((List.range (l.length / 2)).map (hexW l)) else none
def Fds.prL (s : Fds) : List Int := (prOf s.word).getD []
def Fds.prS (s : Fds) : Fds := s.next.bad (prOf s.word).isNone
theorem indexByte_lt (l : List UInt8) (c : UInt8) : Lib.indexByte l c < l.length := by
  cases hi : decide (Lib.indexByte l c = -1) with
  | true => have := of_decide_eq_true hi; omega
  | false =>
    have hi := of_decide_eq_false hi
    obtain ⟨i, hi2⟩ : ∃ i : Nat, Lib.indexByte l c = i := ⟨(Lib.indexByte l c).toNat, by have := Lib.indexByte_ge l c; omega⟩
    have := (cutAt_some hi2).1; omega
theorem hexV_bd (l : List UInt8) (i : Nat) : -1 ≤ hexV l i ∧ hexV l i < 16 := ⟨Lib.indexByte_ge _ _, indexByte_lt hexD _⟩
theorem strU_at (l : List UInt8) (i : Nat) (h : i < (strU l).size) : (strU l)[i]'h = l.getD i 0 := by
  have h2 : i < l.length := by rw [strU_size] at h; exact h
  rw [List.getD_eq_getElem?_getD, List.getElem?_eq_getElem h2, Option.getD_some]
  rfl
theorem index_lit (s : ByteArray) (c v : Int) (w : World) (hv : Lib.indexByte s.data.toList c.toNat.toUInt8 = v) :
    Calls Tryz.prog 44 #[.string s, .int .u8 c] w fun e w' => e = .returned (.int .i64 v) ∧ w = w' := by
  rw [← hv]; exact index_byte_any s c w
theorem hex_call (l : List UInt8) (i : Nat) (h : i < (strU l).size) : Lib.indexByte (⟨#[48, 49, 50, 51, 52, 53, 54, 55, 56, 57, 97, 98, 99, 100, 101, 102]⟩ : ByteArray).data.toList (((((strU l)[i]'h).toNat : Nat) : Int)).toNat.toUInt8 = hexV l i := by
  rw [strU_at l i h, Int.toNat_natCast]
  unfold hexV hexD
  simp
theorem true_step {p : Nat → Bool} {j : Nat} (h : ∀ i, i < j → p i = true) (hp : p j = true) : ∀ i, i < j + 1 → p i = true := fun i hi => by
  rcases Nat.lt_or_ge i j with g | g
  · exact h i g
  · obtain rfl : i = j := by omega
    exact hp
def hexF (l : List UInt8) (j i : Nat) : Int := if i < j then hexW l i else 0
set_option maxRecDepth 10000 in
theorem or_hex (a b : Int) (h0 : 0 ≤ a) (h1 : a < 16) (h2 : 0 ≤ b) (h3 : b < 16) : bits .or .i64 (a * 16) b = a * 16 + b := by
  have h := allB2_out (n := 16) (m := 16) (p := fun a b => decide (bits .or .i64 ((a : Int) * 16) (b : Int) = (a : Int) * 16 + (b : Int))) (by decide +kernel) a.toNat b.toNat (by omega) (by omega)
  rw [show ((a.toNat : Nat) : Int) = a from by omega, show ((b.toNat : Nat) : Int) = b from by omega] at h
  exact of_decide_eq_true h
set_option maxRecDepth 10000 in
set_option maxHeartbeats 1000000 in
theorem printed_any (g : Nat) (s : Fds) (w : World) (h : s.at_ w g) (hmax : s.rest.length < 2 ^ 40) :
    Calls Tryz.prog 48 #[.pointer (some ⟨g, 0, none⟩)] w fun e w' => e = .returned (.string (strOf s.prL)) ∧ s.prS.at_ w' g ∧ w.grownBy w' (some g) := by
  have hwl : s.word.length < 2 ^ 40 := by have := (restL_len 32 s.rest).2; unfold Fds.word; omega
  go_enter Tryz.func48, Tryz.ntmps48
  go_wp2_with fail
  refine (next_any g s _ h hmax).mono ?_
  rintro e w1 ⟨rfl, hb, hg⟩
  have HB := Lib.hid hb
  have HG := Lib.hid hg
  have hgw1 : g < w1.heap.size := Blk.lt hb
  have f2 := Blk.cell hb 2
  have z2 := Blk.free hb 2
  simp at f2
  clear hb hg h
  have HP : Hid (s.prL = (prOf s.word).getD [] ∧ s.prS = s.next.bad (prOf s.word).isNone) := ⟨rfl, rfl⟩
  have htl : (strU s.word).toList = s.word := by rw [ByteArray.toList_eq, strU_data]
  have hsz := strU_size s.word
  by_cases h1 : s.word = [46]
  · have e1 : prOf s.word = some [] := by unfold prOf; rw [if_pos h1]
    have hq : ((strU s.word).toList == [46]) = true := by rw [htl, h1]; rfl
    rw [e1] at HP
    have HPP := Lib.hid HP.out
    clear e1 h1 htl hsz HP
    go_wp2
    go_ret
    exact ⟨ret_str (by rw [HPP.out.1]; rfl), by rw [HPP.out.2]; exact (Fds.bad_no s.next).symm ▸ HB.out, HG.out⟩
  · have hq : ((strU s.word).toList == [46]) = false := by rw [htl]; exact beq_eq_false_iff_ne.2 h1
    by_cases h2 : s.word = []
    · have e1 : prOf s.word = none := by unfold prOf; rw [if_neg h1, if_pos h2]
      have hq2 : (strU s.word).toList.isEmpty = true := by rw [htl, h2]; rfl
      rw [e1] at HP
      have HPP := Lib.hid HP.out
      clear e1 h1 h2 htl hsz HP
      go_wp2
      go_ret
      exact ⟨ret_str (by rw [HPP.out.1]; rfl), by rw [HPP.out.2]; exact Fds.bad_set HB.out, gb_trans HG.out (gb_setCell _ _ _ _)⟩
    · have hq2 : (strU s.word).toList.isEmpty = false := by rw [htl]; simpa using h2
      by_cases h3 : s.word.length % 2 = 1
      · have e1 : prOf s.word = none := by unfold prOf; rw [if_neg h1, if_neg h2, if_pos h3]
        rw [e1] at HP
        have HPP := Lib.hid HP.out
        have h33 : ((((strU s.word).size : Nat) : Int) % 2 != 0) = true := by rw [bne_iff_ne]; omega
        clear e1 h1 h2 h3 htl hsz HP
        go_wp2
        go_ret
        exact ⟨ret_str (by rw [HPP.out.1]; rfl), by rw [HPP.out.2]; exact Fds.bad_set HB.out, gb_trans HG.out (gb_setCell _ _ _ _)⟩
      · have h33 : ((((strU s.word).size : Nat) : Int) % 2 == 0) = true := by rw [beq_iff_eq]; omega
        have h34 : ((((strU s.word).size : Nat) : Int) % 2 != 0) = false := by rw [bne_eq_false_iff_eq]; omega
        have HWN := Lib.hid (And.intro h1 (And.intro h2 h3))
        obtain ⟨n, hn⟩ : ∃ n, s.word.length = 2 * n := ⟨s.word.length / 2, by omega⟩
        have hn2 : (((strU s.word).size : Nat) : Int) / 2 = (n : Int) := by omega
        have hmk := make_u8 w1 n (by omega)
        have HSZ := Lib.hid hsz
        have HN := Lib.hid hn
        have hnb : n < 2 ^ 40 := by omega
        clear h1 h2 h3 htl hsz hn
        go_wp2_with fail
        have hq0 := Lib.hid (Blk.new w1 (rowOf (fun _ => .int .u8 0) n) 5)
        have hb0 := Lib.hid (below_box w1 (rowOf (fun _ => .int .u8 0) n) 5)
        generalize hV : w1.alloc (.cells (rowOf (fun _ => .int .u8 0) n) 5) = V at *
        obtain ⟨q, hqe⟩ : ∃ q, w1.heap.size = q := ⟨_, rfl⟩
        rw [hqe] at hq0 hb0 hgw1
        rw [hqe]
        have HQ := Lib.hid hqe
        clear hqe hV hmk hn2 h33 h34 hq hq2 f2 z2
        go_loopw [29] (fun i wr => ∃ j : Nat, j ≤ n ∧ i = .int .i64 j ∧ Blk wr q 5 (rowOf (fun i => .int .u8 (hexF s.word j i)) n) ∧ Below q w1 wr ∧ (∀ i, i < j → hexOk s.word i = true)) (fun i _ => n - (intOf i).toNat)
        case atStart => exact ⟨0, by omega, rfl, hq0.out, hb0.out, fun i h => absurd h (by omega)⟩
        case round =>
          obtain ⟨j, hj, rfl, hblk, hb, hok⟩ := hrel
          clear hq0 hb0
          have HOK := Lib.hid hok
          have HBLK := Lib.hid hblk
          have HBB := Lib.hid hb
          have hql := hblk.lt
          clear hok hblk hb
          by_cases hlt : j < n
          · have s1 : 2 * j < (strU s.word).size := by have := HSZ.out; have := HN.out; omega
            have s2 : 2 * j + 1 < (strU s.word).size := by have := HSZ.out; have := HN.out; omega
            have HC1 := Lib.hid (hex_call s.word (2 * j) s1)
            have HC2 := Lib.hid (hex_call s.word (2 * j + 1) s2)
            have hj0 : (0 : Int) ≤ (j : Int) := by omega
            have hjn : (j : Int) < (n : Int) := by omega
            have s3 : (2 : Int) * (j : Int) < ((strU s.word).size : Int) := by omega
            have s4 : (2 : Int) * (j : Int) + 1 < ((strU s.word).size : Int) := by omega
            have hmx : (strU s.word).size < 2 ^ 40 := by have := HSZ.out; omega
            go_wp2_with fail
            refine (index_lit _ _ (hexV s.word (2 * j)) _ HC1.out).mono ?_
            rintro e _ ⟨rfl, rfl⟩
            go_wp2_with fail
            refine (index_lit _ _ (hexV s.word (2 * j + 1)) _ HC2.out).mono ?_
            rintro e _ ⟨rfl, rfl⟩
            have b1 := hexV_bd s.word (2 * j)
            have b2 := hexV_bd s.word (2 * j + 1)
            have HOKJ : Hid (hexOk s.word j = (decide (0 ≤ hexV s.word (2 * j)) && decide (0 ≤ hexV s.word (2 * j + 1)))) := rfl
            have HWV : Hid (hexW s.word j = hexV s.word (2 * j) * 16 + hexV s.word (2 * j + 1)) := rfl
            have HOR := Lib.hid (or_hex (hexV s.word (2 * j)) (hexV s.word (2 * j + 1)))
            generalize hexV s.word (2 * j) = x at *
            generalize hexV s.word (2 * j + 1) = y at *
            clear HC1 HC2
            by_cases hx : 0 ≤ x ∧ 0 ≤ y
            · obtain ⟨hx0, hy0⟩ := hx
              have f0 := HBLK.out.cell j
              rw [rowOf_get _ _ _ hlt] at f0
              have f1 := HBLK.out.free j
              have hor := HOR.out hx0 (by omega) hy0 (by omega)
              have hw2 : IntKind.i64.wrap (x * 16) = x * 16 := IntWalk.i64_in _ (by omega)
              have hoj : hexOk s.word j = true := by rw [HOKJ.out]; simp; omega
              have HOJ := Lib.hid hoj
              clear hoj
              go_wp2
              refine ⟨⟨j + 1, by omega, by go_num, ?_, HBB.out.setCell (Nat.le_refl _) _, true_step HOK.out HOJ.out⟩, by simp [intOf]; omega⟩
              have := HBLK.out.set j (.int .u8 (x * 16 + y))
              rw [rowOf_set (g := fun i => .int .u8 (hexF s.word (j + 1) i))] at this
              · exact this
              · simp only [hexF, if_pos (Nat.lt_succ_self j)]; rw [HWV.out]
              · intro i hi; simp only [hexF]; congr 1; by_cases hij : i < j
                · rw [if_pos hij, if_pos (by omega)]
                · rw [if_neg hij, if_neg (by omega)]
            · have hnone : prOf s.word = none := by
                unfold prOf
                rw [if_neg HWN.out.1, if_neg HWN.out.2.1, if_neg HWN.out.2.2, if_neg]
                rw [Bool.not_eq_true, List.all_eq_false]
                refine ⟨j, List.mem_range.2 (by have := HN.out; omega), ?_⟩
                rw [HOKJ.out]
                intro h
                simp at h
                exact hx h
              rw [hnone] at HP
              have HPP := Lib.hid HP.out
              have hF : s.next.at_ wr g := HB.out.keep HBB.out hgw1
              have z2 := Blk.free hF 2
              have f2 := Blk.cell hF 2
              simp at f2
              have HF := Lib.hid hF
              have hx2 : x < 0 ∨ (0 ≤ x ∧ y < 0) := by omega
              clear hF hnone hx HP
              rcases hx2 with hx2 | ⟨hx2, hy2⟩
              all_goals
                go_wp2
                go_ret
                exact ⟨ret_str (by rw [HPP.out.1]; rfl), by rw [HPP.out.2]; exact Fds.bad_set HF.out, gb_trans (gb_trans HG.out (gb_below (some g) (by rw [HQ.out]; exact HBB.out))) (gb_setCell _ _ _ _)⟩
          · have : j = n := by omega
            subst this
            have hsome : prOf s.word = some ((List.range j).map (hexW s.word)) := by
              unfold prOf
              rw [if_neg HWN.out.1, if_neg HWN.out.2.1, if_neg HWN.out.2.2]
              have e2 : s.word.length / 2 = j := by have := HN.out; omega
              rw [e2, if_pos]
              rw [List.all_eq_true]
              intro i hi
              exact HOK.out i (List.mem_range.1 hi)
            rw [hsome] at HP
            have HPP := Lib.hid HP.out
            have hcv := conv_row wr q j j _ _ HBLK.out
            clear hsome HP
            go_wp2
            go_ret
            have e3 : (List.range j).map (hexF s.word j) = (List.range j).map (hexW s.word) := List.map_congr_left fun i hi => by unfold hexF; rw [if_pos (List.mem_range.1 hi)]
            refine ⟨ret_str (by rw [HPP.out.1, e3]; rfl), by rw [HPP.out.2]; exact (Fds.bad_no s.next).symm ▸ HB.out.keep HBB.out hgw1, gb_trans HG.out (gb_below (some g) (by rw [HQ.out]; exact HBB.out))⟩
end Go.Proofs.YtiedaongfjcbhabGreatDoor
