/- Package table: the reader's fields: next, word, number, complete, modes. -/
import Derived.Test.YtiedaongfjcbhabGreatDoorPar1
namespace Go.Proofs.YtiedaongfjcbhabGreatDoor
open Go.RowKit

/-- A reader of fields: what is left, whether it was used up, whether a field was wrong. -/
structure Fds where
  rest : List UInt8
  used : Bool
  wrong : Bool
def Fds.at_ (s : Fds) (w : World) (g : Nat) : Prop := Blk w g 60 #[.string (strU s.rest), .bool s.used, .bool s.wrong]
def Fds.word (s : Fds) : List UInt8 := pieceL 32 s.rest
def Fds.next (s : Fds) : Fds := ⟨restL 32 s.rest, usedB 32 s.rest s.used, s.wrong⟩
def Fds.bad (s : Fds) (b : Bool) : Fds := ⟨s.rest, s.used, s.wrong || b⟩
theorem restL_len (c : UInt8) (l : List UInt8) : (restL c l).length ≤ l.length ∧ (pieceL c l).length ≤ l.length := by
  unfold restL pieceL
  cases hi : decide (Lib.indexByte l c = -1) with
  | true =>
    rw [cutAt_none (of_decide_eq_true hi)]; simp
  | false =>
    have hi := of_decide_eq_false hi
    obtain ⟨i, hi2⟩ : ∃ i : Nat, Lib.indexByte l c = i := ⟨(Lib.indexByte l c).toNat, by have := Lib.indexByte_ge l c; omega⟩
    rw [(cutAt_some hi2).2]; simp; omega
set_option maxRecDepth 10000 in
theorem next_any (g : Nat) (s : Fds) (w : World) (h : s.at_ w g) (hmax : s.rest.length < 2 ^ 40) :
    Calls Tryz.prog 62 #[.pointer (some ⟨g, 0, none⟩)] w fun e w' => e = .returned (.string (strU s.word)) ∧ s.next.at_ w' g ∧ w.grownBy w' (some g) := by
  have HH := Lib.hid h
  clear h
  go_enter Tryz.func62, Tryz.ntmps62
  go_wp2_with fail
  refine (piece_any g 60 (strU s.rest) s.used [.bool s.wrong] 32 _ HH.out (by rw [strU_size]; exact hmax)).mono ?_
  rintro e w' ⟨rfl, hb, hg⟩
  rw [strU_data] at hb ⊢
  have HB := Lib.hid hb
  have HG := Lib.hid hg
  clear hb hg
  go_wp2
  go_ret
  exact ⟨rfl, HB.out, HG.out⟩
theorem Fds.bad_set {s : Fds} {w : World} {g : Nat} (h : s.at_ w g) : (s.bad true).at_ (w.setCell ⟨g, 2, none⟩ (.bool true)) g := by
  have := Blk.set h 2 (.bool true)
  unfold Fds.at_ Fds.bad
  simpa using this
theorem Fds.bad_no (s : Fds) : s.bad false = s := by cases s; simp [Fds.bad]
set_option maxRecDepth 10000 in
theorem word_any (g : Nat) (s : Fds) (x : ByteArray) (w : World) (h : s.at_ w g) (hmax : s.rest.length < 2 ^ 40) :
    Calls Tryz.prog 45 #[.pointer (some ⟨g, 0, none⟩), .string x] w fun e w' => e = .returned (.tuple #[]) ∧ (s.next.bad (!eqB s.word x.data.toList)).at_ w' g ∧ w.grownBy w' (some g) := by
  go_enter Tryz.func45, Tryz.ntmps45
  go_wp2_with fail
  refine (next_any g s _ h hmax).mono ?_
  rintro e w1 ⟨rfl, hb, hg⟩
  have HB := Lib.hid hb
  have HG := Lib.hid hg
  have f2 := Blk.cell hb 2
  have z2 := Blk.free hb 2
  simp at f2
  clear hb hg h
  have hq := eqB_str (strU s.word) x
  have hq2 : Hid (eqB (strU s.word) x = eqB s.word x.data.toList) := by
    unfold Hid eqB
    rw [Bool.eq_iff_iff]
    simp only [decide_eq_true_eq]
    constructor
    · rintro rfl; rw [strU_data]
    · intro h; rw [h, strU_of]
  rw [hq2.out] at hq
  cases hv : eqB s.word x.data.toList
  · rw [hv] at hq
    have HV := Lib.hid hv
    clear hv hq2
    go_wp2
    go_end0
    exact ⟨rfl, by rw [HV.out]; exact Fds.bad_set HB.out, gb_trans HG.out (gb_setCell _ _ _ _)⟩
  · rw [hv] at hq
    have HV := Lib.hid hv
    clear hv hq2
    go_wp2
    go_end0
    exact ⟨rfl, by rw [HV.out]; exact (Fds.bad_no s.next).symm ▸ HB.out, HG.out⟩

/-- What the library's variables hold, whatever a call writes into block g. -/
def LaidG (w : World) (g : Nat) : Prop := ∀ a : World, w.grownBy a (some g) → Laid a
theorem LaidG.of {w0 w : World} {g : Nat} (h : Laid w0) (hb : Below w0.heap.size w0 w) (hg : w0.heap.size ≤ g) : LaidG w g := fun _ ha => h.keep (hb.trans (below_gb ha hb.size hg))
theorem LaidG.gb {w a : World} {g : Nat} (h : LaidG w g) (ha : w.grownBy a (some g)) : LaidG a g := fun b hb => h b (gb_trans ha hb)
/-- The number that a field spells, if it is written as it should be. -/
def numF (most : Int) (l : List UInt8) : Option Int := match atoiE l with
  | some n => if 0 ≤ n ∧ n ≤ most ∧ Lib.itoa n = l then some n else none
  | none => none
def Fds.num (s : Fds) (most : Int) : Int := (numF most s.word).getD 0
def Fds.numS (s : Fds) (most : Int) : Fds := s.next.bad (numF most s.word).isNone
theorem numF_bd {most n : Int} {l : List UInt8} (h : numF most l = some n) : 0 ≤ n ∧ n ≤ most := by
  unfold numF at h
  split at h
  · split at h
    · rename_i h2; injection h with h; omega
    · cases h
  · cases h
theorem num_bd (s : Fds) (most : Int) (h : 0 ≤ most) : 0 ≤ s.num most ∧ s.num most ≤ most := by
  unfold Fds.num
  cases hn : numF most s.word with
  | none => exact ⟨Int.le_refl _, h⟩
  | some n => exact numF_bd hn
set_option maxRecDepth 10000 in
set_option maxHeartbeats 1000000 in
theorem number_any (g : Nat) (s : Fds) (most : Int) (w : World) (h : s.at_ w g) (hmax : s.rest.length < 2 ^ 40) (hm : 0 ≤ most ∧ most ≤ 10000) (hgv : LaidG w g) :
    Calls Tryz.prog 46 #[.pointer (some ⟨g, 0, none⟩), .int .i64 most] w fun e w' => e = .returned (.int .i64 (s.num most)) ∧ (s.numS most).at_ w' g ∧ w.grownBy w' (some g) := by
  have hgw : g < w.heap.size := Blk.lt h
  have hwl : s.word.length < 2 ^ 40 := by have := (restL_len 32 s.rest).2; unfold Fds.word; omega
  go_enter Tryz.func46, Tryz.ntmps46
  go_wp2_with fail
  refine (next_any g s _ h hmax).mono ?_
  rintro e w1 ⟨rfl, hb, hg⟩
  have HB := Lib.hid hb
  have HG := Lib.hid hg
  have HL1 := Lib.hid (hgv w1 hg)
  have hgw1 : g < w1.heap.size := Blk.lt hb
  clear hb hg h hgv
  go_wp2_with fail
  refine (atoi_any _ (by rw [strU_size]; omega) _ HL1.out).mono ?_
  rintro e w2 ⟨hb2, he⟩
  rw [strU_data] at he
  have hB2 := HB.out.keep hb2 hgw1
  have HG2 := Lib.hid (gb_trans HG.out (gb_below (some g) hb2))
  have HL2 := Lib.hid (HL1.out.keep hb2)
  have f2 := Blk.cell hB2 2
  have z2 := Blk.free hB2 2
  simp at f2
  have HB2 := Lib.hid hB2
  have hgw2 := Blk.lt hB2
  clear hB2 hb2
  have HN : Hid (s.num most = (numF most s.word).getD 0 ∧ s.numS most = s.next.bad (numF most s.word).isNone) := ⟨rfl, rfl⟩
  cases ha : atoiE s.word with
  | none =>
    rw [ha] at he
    obtain ⟨v, tp, p, rfl⟩ := he
    have hf : numF most s.word = none := by unfold numF; rw [ha]
    rw [hf] at HN
    have HN := Lib.hid HN.out
    clear ha hf
    go_wp2
    go_ret
    exact ⟨ret_int (by rw [HN.out.1]; rfl), by rw [HN.out.2]; exact Fds.bad_set HB2.out, gb_trans HG2.out (gb_setCell _ _ _ _)⟩
  | some n =>
    rw [ha] at he
    have he : e = .returned (.tuple #[.int .i64 n, .nilIface]) := he
    subst he
    have HA := Lib.hid ha
    clear ha
    by_cases h1 : 0 ≤ n
    · by_cases h2 : n ≤ most
      · go_wp2_with fail
        refine (itoa_any n (by omega) (by omega) _ HL2.out).mono ?_
        rintro e w3 ⟨rfl, hb3⟩
        have hB3 := HB2.out.keep hb3 hgw2
        have HG3 := Lib.hid (gb_trans HG2.out (gb_below (some g) hb3))
        have f3 := Blk.cell hB3 2
        have z3 := Blk.free hB3 2
        simp at f3
        have HB3 := Lib.hid hB3
        clear hB3 hb3 f2 z2
        have hq := eqB_str (strU (Lib.itoa n)) (strU s.word)
        have hq2 : Hid (eqB (strU (Lib.itoa n)) (strU s.word) = eqB (Lib.itoa n) s.word) := by
          unfold Hid eqB
          rw [Bool.eq_iff_iff]
          simp only [decide_eq_true_eq]
          exact ⟨fun h => by rw [← strU_data (Lib.itoa n), h, strU_data], fun h => by rw [h]⟩
        rw [hq2.out] at hq
        cases hv : eqB (Lib.itoa n) s.word
        · rw [hv] at hq
          have hf : numF most s.word = none := by unfold numF; rw [HA.out]; simp only; rw [if_neg (fun h => eqB_no hv h.2.2)]
          rw [hf] at HN
          have HN := Lib.hid HN.out
          clear hv hq2 hf
          go_wp2
          go_ret
          exact ⟨ret_int (by rw [HN.out.1]; rfl), by rw [HN.out.2]; exact Fds.bad_set HB3.out, gb_trans HG3.out (gb_setCell _ _ _ _)⟩
        · rw [hv] at hq
          have hf : numF most s.word = some n := by unfold numF; rw [HA.out]; simp only; rw [if_pos ⟨h1, h2, eqB_yes hv⟩]
          rw [hf] at HN
          have HN := Lib.hid HN.out
          clear hv hq2 hf
          go_wp2
          go_ret
          exact ⟨ret_int (by rw [HN.out.1]; rfl), by rw [HN.out.2]; exact (Fds.bad_no s.next).symm ▸ HB3.out, HG3.out⟩
      · have hf : numF most s.word = none := by unfold numF; rw [HA.out]; simp only; rw [if_neg (fun h => h2 h.2.1)]
        rw [hf] at HN
        have HN := Lib.hid HN.out
        clear hf
        have h2' : most < n := by omega
        clear h2
        go_wp2
        go_ret
        exact ⟨ret_int (by rw [HN.out.1]; rfl), by rw [HN.out.2]; exact Fds.bad_set HB2.out, gb_trans HG2.out (gb_setCell _ _ _ _)⟩
    · have hf : numF most s.word = none := by unfold numF; rw [HA.out]; simp only; rw [if_neg (fun h => h1 h.1)]
      rw [hf] at HN
      have HN := Lib.hid HN.out
      clear hf
      have h1' : n < 0 := by omega
      clear h1
      go_wp2
      go_ret
      exact ⟨ret_int (by rw [HN.out.1]; rfl), by rw [HN.out.2]; exact Fds.bad_set HB2.out, gb_trans HG2.out (gb_setCell _ _ _ _)⟩

theorem complete_any (g : Nat) (s : Fds) (w : World) (h : s.at_ w g) :
    Calls Tryz.prog 24 #[.pointer (some ⟨g, 0, none⟩)] w fun e w' => e = .returned (.bool (s.used && !s.wrong)) ∧ w = w' := by
  have f1 := Blk.cell h 1
  have f2 := Blk.cell h 2
  simp at f1 f2
  clear h
  obtain ⟨r, u, v⟩ := s
  simp only at *
  cases u <;> cases v
  all_goals
    go_enter Tryz.func24, Tryz.ntmps24
    go_wp2
    go_ret
    exact ⟨rfl, rfl⟩
def modesB : ByteArray := ⟨#[109, 111, 100, 101, 115]⟩
def modesW : List UInt8 := [109, 111, 100, 101, 115]
def acceptW : List UInt8 := [97, 99, 99, 101, 112, 116]
def Fds.wordS (s : Fds) (x : List UInt8) : Fds := s.next.bad (!eqB s.word x)
def Fds.m1 (s : Fds) : Fds := s.wordS modesW
def Fds.m2 (s : Fds) : Fds := s.m1.numS 999
def Fds.m3 (s : Fds) : Fds := s.m2.wordS acceptW
def Fds.m4 (s : Fds) : Fds := s.m3.numS 255
theorem wordS_len (s : Fds) (x : List UInt8) : (s.wordS x).rest.length ≤ s.rest.length := (restL_len 32 s.rest).1
theorem numS_len (s : Fds) (m : Int) : (s.numS m).rest.length ≤ s.rest.length := (restL_len 32 s.rest).1
set_option maxRecDepth 10000 in
theorem modes_any (g : Nat) (s : Fds) (w : World) (h : s.at_ w g) (hmax : s.rest.length < 2 ^ 40) (hgv : LaidG w g) :
    Calls Tryz.prog 22 #[.pointer (some ⟨g, 0, none⟩)] w fun e w' => e = .returned (.tuple #[.int .i64 (s.m1.num 999), .int .u8 (s.m3.num 255)]) ∧ s.m4.at_ w' g ∧ w.grownBy w' (some g) := by
  have l1 := wordS_len s modesW
  have l2 := numS_len s.m1 999
  have l3 := wordS_len s.m2 acceptW
  have b1 := num_bd s.m3 255 (by omega)
  go_enter Tryz.func22, Tryz.ntmps22
  go_wp2_with fail
  refine (word_any g s ⟨#[109, 111, 100, 101, 115]⟩ _ h hmax).mono ?_
  rintro e w1 ⟨rfl, hb1, hg1⟩
  have HB1 : Hid (s.m1.at_ w1 g) := hb1
  have HG1 := Lib.hid hg1
  have HV1 := Lib.hid (hgv.gb hg1)
  clear hb1 hg1 h hgv
  go_wp2_with fail
  refine (number_any g s.m1 999 _ HB1.out (by show (s.wordS modesW).rest.length < _; omega) (by omega) HV1.out).mono ?_
  rintro e w2 ⟨rfl, hb2, hg2⟩
  have HB2 : Hid (s.m2.at_ w2 g) := hb2
  have HG2 := Lib.hid (gb_trans HG1.out hg2)
  have HV2 := Lib.hid (HV1.out.gb hg2)
  clear hb2 hg2
  go_wp2_with fail
  refine (word_any g s.m2 ⟨#[97, 99, 99, 101, 112, 116]⟩ _ HB2.out (by show (s.m1.numS 999).rest.length < _; have : s.m1.rest.length = (s.wordS modesW).rest.length := rfl; omega)).mono ?_
  rintro e w3 ⟨rfl, hb3, hg3⟩
  have HB3 : Hid (s.m3.at_ w3 g) := hb3
  have HG3 := Lib.hid (gb_trans HG2.out hg3)
  have HV3 := Lib.hid (HV2.out.gb hg3)
  clear hb3 hg3
  go_wp2_with fail
  refine (number_any g s.m3 255 _ HB3.out (by show (s.m2.wordS acceptW).rest.length < _; have e1 : s.m2.rest.length = (s.m1.numS 999).rest.length := rfl; have e2 : s.m1.rest.length = (s.wordS modesW).rest.length := rfl; omega) (by omega) HV3.out).mono ?_
  rintro e w4 ⟨rfl, hb4, hg4⟩
  have HB4 : Hid (s.m4.at_ w4 g) := hb4
  have HG4 := Lib.hid (gb_trans HG3.out hg4)
  clear hb4 hg4 l1 l2 l3
  go_wp2
  go_ret2
  exact ⟨rfl, HB4.out, HG4.out⟩
end Go.Proofs.YtiedaongfjcbhabGreatDoor
