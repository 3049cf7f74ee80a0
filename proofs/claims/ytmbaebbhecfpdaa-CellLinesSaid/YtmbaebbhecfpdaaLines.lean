/- P1.2: for all lists, strings and bytes: the characters of at most 20 cells are read as these cells; a text of at most 20 bytes is read exactly if all its bytes are characters of cells, and then is what its cells show; texts are read part by part. No condition. -/
import Derived.Test.YtmbaebbhecfpdaaL
namespace Go.Proofs.Ytmbaebbhecfpdaa
open Go.RowKit

theorem bytes_strOf (l : List Int) (h : ∀ z ∈ l, 0 ≤ z ∧ z < 256) : bytes (strOf l) = l.map Int.toNat := by
  unfold bytes strOf
  simp only [List.map_map]
  apply List.map_congr_left
  intro z hz
  have := h z hz
  simp only [Function.comp_apply, UInt8.toNat_ofNat']
  omega
theorem char_nat (c : Int) (h0 : 0 ≤ c) (h1 : c < 64) : 0 ≤ charI c ∧ charI c < 256 ∧ cellOf (charI c).toNat = c.toNat := by
  obtain ⟨n, rfl⟩ := Int.eq_ofNat_of_zero_le h0
  have hn : n < 64 := by omega
  have h := allB_out (n := 64) (p := fun n => decide (chars.getD n 0 < 256)) (by decide +kernel) n hn
  have h2 : chars.getD n 0 < 256 := by simpa using h
  refine ⟨?_, ?_, ?_⟩
  · unfold charI; omega
  · unfold charI; rw [Int.toNat_natCast]; omega
  · unfold charI; rw [Int.toNat_natCast, Int.toNat_natCast]; exact cellOf_char n hn
theorem lineAt_all (l : List Nat) (h : ∀ b ∈ l, isChar b = true) : lineAt l = l.length := by
  unfold lineAt
  rw [tw_all (fun i b _ hb => h b (List.mem_of_getElem? hb))]
/-- What is shown is read. -/
theorem line_show (cs : List Int) (h : ∀ z ∈ cs, 0 ≤ z ∧ z < 64) :
    ((lineAt (bytes (strOf (cs.map charI))) : Nat) : Int) = (cs.length : Nat) ∧ lineE (bytes (strOf (cs.map charI))) = 0 ∧ lineCells (bytes (strOf (cs.map charI))) = cs := by
  have hb : bytes (strOf (cs.map charI)) = cs.map fun c => (charI c).toNat := by
    rw [bytes_strOf _ (fun z hz => by
      rw [List.mem_map] at hz
      obtain ⟨c, hc, rfl⟩ := hz
      have := char_nat c (h c hc).1 (h c hc).2
      exact ⟨this.1, this.2.1⟩), List.map_map]; rfl
  have hall : lineAt (bytes (strOf (cs.map charI))) = (bytes (strOf (cs.map charI))).length := by
    refine lineAt_all _ fun b hbm => ?_
    rw [hb, List.mem_map] at hbm
    obtain ⟨c, hc, rfl⟩ := hbm
    have := (char_nat c (h c hc).1 (h c hc).2).2.2
    have h2 := h c hc
    simp only [isChar, this, decide_eq_true_eq]; omega
  refine ⟨by rw [hall, hb, List.length_map], if_pos hall, ?_⟩
  rw [lineCells, if_pos hall, hb, List.map_map]
  have : cs.map ((fun b => ((cellOf b : Nat) : Int)) ∘ fun c => (charI c).toNat) = cs.map id := by
    apply List.map_congr_left
    intro c hc
    have := (char_nat c (h c hc).1 (h c hc).2).2.2
    have h2 := h c hc
    simp only [Function.comp_apply, this, id]; omega
  rw [this, List.map_id]
theorem tw_len_le (l : List Nat) (p : Nat → Bool) : (l.takeWhile p).length ≤ l.length := (List.takeWhile_sublist (l := l) p).length_le
theorem part_lt (l : List Nat) (h : ¬ lineAt l = l.length) : lineAt l < l.length := by
  have := tw_len_le l isChar; unfold lineAt at h ⊢; omega
theorem part_bad : ∀ (l : List Nat), ¬ lineAt l = l.length → ∃ b, l[lineAt l]? = some b ∧ ¬ cellOf b < 64 := by
  intro l
  induction l with
  | nil => intro h; simp [lineAt] at h
  | cons b t ih =>
    intro h
    by_cases hb : isChar b = true
    · have e : lineAt (b :: t) = lineAt t + 1 := by simp [lineAt, hb]
      rw [e] at h ⊢
      obtain ⟨c, h1, h2⟩ := ih (by simpa using h)
      exact ⟨c, by simpa using h1, h2⟩
    · have e : lineAt (b :: t) = 0 := by simp [lineAt, hb]
      rw [e]
      exact ⟨b, rfl, by simpa [isChar] using hb⟩
theorem tw_mem : ∀ (l : List Nat) (b : Nat), b ∈ l.takeWhile isChar → isChar b = true := by
  intro l
  induction l with
  | nil => intro b h; simp at h
  | cons a t ih =>
    intro b h
    rw [List.takeWhile_cons] at h
    by_cases ha : isChar a = true
    · rw [if_pos ha, List.mem_cons] at h
      rcases h with rfl | h
      · exact ha
      · exact ih b h
    · rw [if_neg ha] at h; simp at h
theorem bytes_extract (s : ByteArray) (a b : Nat) : bytes (s.extract a b) = ((bytes s).take b).drop a := by
  unfold bytes
  rw [ByteArray.data_extract, Array.toList_extract, List.extract_eq_take_drop, List.map_take, List.map_drop, List.drop_take]
theorem all_chars (l : List Nat) (h : lineAt l = l.length) : ∀ b ∈ l, isChar b = true := by
  intro b hb
  have h1 : l.takeWhile isChar = l := (List.takeWhile_sublist (l := l) isChar).eq_of_length h
  rw [← h1] at hb
  exact tw_mem l b hb
theorem seq_news {w : World} {B g : Nat} {xs : List Int} (h : Seq w B (some ⟨g, 0, none⟩) xs) : ∀ j u, (xs.map (Value.int .u8))[j]? = some u → w.cell? ((⟨g, 0, none⟩ : Addr).add j) = some u := by
  intro j u hu
  rw [List.getElem?_map] at hu
  have hj : j < xs.length := by
    rcases Nat.lt_or_ge j xs.length with g | g
    · exact g
    · rw [List.getElem?_eq_none g] at hu; cases hu
  rw [List.getElem?_eq_getElem hj] at hu
  obtain ⟨b, o, e, _, hc⟩ := h (by omega)
  injection e with e
  injection e with e1 e2
  subst e1 e2
  have hadd : (⟨g, 0, none⟩ : Addr).add j = ⟨g, j, none⟩ := by unfold Addr.add; split <;> simp_all
  rw [hadd]
  have := hc j hj
  rw [Nat.zero_add] at this
  rw [this]; simpa using hu
theorem cells_split (l : List Nat) (q : Nat) (h : ∀ b ∈ l, isChar b = true) : lineCells (l.take q) ++ lineCells (l.drop q) = lineCells l := by
  have h1 : lineAt (l.take q) = (l.take q).length := lineAt_all _ fun b hb => h b (List.mem_of_mem_take hb)
  have h2 : lineAt (l.drop q) = (l.drop q).length := lineAt_all _ fun b hb => h b (List.mem_of_mem_drop hb)
  have h3 : lineAt l = l.length := lineAt_all _ h
  rw [lineCells, if_pos h1, lineCells, if_pos h2, lineCells, if_pos h3, ← List.map_append, List.take_append_drop]
/-- What is read is shown. -/
theorem show_line (s : ByteArray) (h : ∀ b ∈ bytes s, isChar b = true) : strOf ((lineCells (bytes s)).map charI) = s ∧ ∀ z ∈ lineCells (bytes s), 0 ≤ z ∧ z < 64 := by
  have h3 : lineAt (bytes s) = (bytes s).length := lineAt_all _ h
  rw [lineCells, if_pos h3, List.map_map]
  constructor
  · have : (bytes s).map (charI ∘ fun b => ((cellOf b : Nat) : Int)) = (bytes s).map fun b : Nat => (b : Int) := by
      apply List.map_congr_left
      intro b hb
      have hc := h b hb
      simp only [isChar, decide_eq_true_eq] at hc
      show charI (cellOf b : Nat) = b
      unfold charI; rw [Int.toNat_natCast, char_cellOf b hc]
    rw [this]
    unfold strOf bytes
    simp only [List.map_map]
    have e : ((fun n : Int => UInt8.ofNat n.toNat) ∘ ((fun b : Nat => (b : Int)) ∘ UInt8.toNat)) = id := by funext u; simp
    rw [e]; simp
  · intro z hz
    rw [List.mem_map] at hz
    obtain ⟨b, hb, rfl⟩ := hz
    have hc := h b hb
    simp only [isChar, decide_eq_true_eq] at hc
    omega
theorem part_take (l : List Nat) : lineAt (l.take (lineAt l)) = lineAt l ∧ (l.take (lineAt l)).length = lineAt l := by
  have e : l.take (lineAt l) = l.takeWhile isChar := by
    have h := List.takeWhile_prefix isChar (l := l)
    exact (List.prefix_iff_eq_take.1 h).symm
  have hl : (l.takeWhile isChar).length = lineAt l := rfl
  rw [e, hl]
  refine ⟨?_, rfl⟩
  have := lineAt_all (l.takeWhile isChar) (fun b hb => tw_mem l b hb)
  rw [this]; rfl
theorem cellsTo_cells (zs : List Int) (k : Nat) : ∀ z ∈ cellsTo zs k, 0 ≤ z ∧ z < 64 := by
  intro z hz
  unfold cellsTo at hz
  rw [List.mem_map] at hz
  obtain ⟨x, _, rfl⟩ := hz
  omega
theorem getD_of_mem {l : List Int} (h : ∀ z ∈ l, 0 ≤ z ∧ z < 64) (i : Nat) : 0 ≤ l.getD i 0 ∧ l.getD i 0 < 64 := by
  rw [List.getD_eq_getElem?_getD]
  cases hq : l[i]? with
  | none => simp
  | some z => exact h z (List.mem_of_getElem? hq)
end Go.Proofs.Ytmbaebbhecfpdaa
namespace Go.Proofs.Ytmbaebbhecfpdaa.cellLines
open Go.ChangeShapes Go.WideShapes Go.ChangeAt Go.RowKit
set_option linter.unusedVariables false

set_option maxRecDepth 100000 in
set_option maxHeartbeats 1000000 in
theorem walk (a0 : Option Addr) (n0 c0 : Nat) (z0 : List Int) (a1 : ByteArray) (a2 : Int) (w : World) (w0 : IsRow .u8 w a0 n0 z0) (w1 : a1.size ≤ maxLen) (w2 : (Lit.int .u8 a2).wf = true) :
    Calls Try.prog 5 #[.slice a0 n0 c0, .string a1, .int .u8 a2] w fun e w' => e = .returned (.bool true) ∧ Below w.heap.size w w' := by
  have hz := bounds_u8 w2
  unfold maxLen at w1
  clear w2
  have W0 := Lib.hid w0
  clear w0
  go_enter Try.func5, Try.ntmps5
  go_wp2_with fail
  refine (sanity_any _).mono ?_
  rintro e wa ⟨rfl, hba⟩
  have W1 : IsRow .u8 wa a0 n0 z0 := by
    obtain ⟨x1, x2, x3, x4⟩ := W0.out
    refine ⟨x1, x2, x3, fun hp => ?_⟩
    obtain ⟨b, o, e, hb, hc⟩ := x4 hp
    exact ⟨b, o, e, Nat.lt_of_lt_of_le hb hba.size, fun i hi => (hba.cell (p := ⟨b, o + i, none⟩) hb).trans (hc i hi)⟩
  have W1 := Lib.hid W1
  clear W0
  go_wp2_with fail
  refine (cells_any _ _ _ z0 _ W1.out).mono ?_
  rintro e wb ⟨A, k, rfl, hseq, hbb⟩
  have hbb := below_next hba hbb
  have hcells := cellsTo_cells z0 20
  have hclen : (cellsTo z0 20).length ≤ 20 := by rw [cellsTo_len]; omega
  clear hba W1
  generalize hcs : cellsTo z0 20 = cs at *
  clear hcs
  obtain ⟨s1, s2, s3⟩ := line_show cs hcells
  have hlen : Hid ((strOf (cs.map charI)).size = cs.length) := by unfold Hid strOf; simp [ByteArray.size]
  go_wp2_with fail
  refine (show_any A cs.length k cs wb rfl (by omega) hseq (fun i => getD_of_mem hcells i)).mono ?_
  rintro e wc ⟨rfl, hbc⟩
  have hseq := (hseq.keep hbc).more hbc.size
  have hbc := below_next hbb hbc
  clear hbb
  go_wp2_with fail
  refine (line_lit _ cs.length _ 0 cs s1 s2 s3 rfl (by rw [hlen.out]; omega) _).mono ?_
  rintro e wd ⟨⟨B, kB, rfl, hseqB⟩, hbd⟩
  have hseq := (hseq.keep hbd).more hbd.size
  have hbd := below_next hbc hbd
  clear hbc s1 s2 s3 hlen
  go_wp2_with fail
  refine (same_lit B A cs.length cs.length kB k cs cs _ rfl rfl hseqB hseq (by omega) true (by simp)).mono ?_
  rintro e we ⟨rfl, hbe⟩
  have hseq := (hseq.keep hbe).more hbe.size
  have hseqB := (hseqB.keep hbe).more hbe.size
  have hbe := below_next hbd hbe
  clear hbd
  by_cases h20 : 20 < a1.size
  · have h20' : (20 : Int) < (a1.size : Int) := by omega
    go_wp2_with fail
    refine (same_lit B A cs.length cs.length kB k cs cs _ rfl rfl hseqB hseq (by omega) true (by simp)).mono ?_
    rintro e wf ⟨rfl, hbf⟩
    have hbf := below_next hbe hbf
    go_wp2
    go_ret
    exact ⟨rfl, hbf⟩
  · have h20' : ¬ (20 : Int) < (a1.size : Int) := by omega
    clear hseq hseqB
    go_wp2_with fail
    refine (line_any a1 _ (by omega)).mono ?_
    rintro e wf ⟨C, nC, kC, rfl, hnC, hseqC, hsome, hbf⟩
    have hbf := below_next hbe hbf
    clear hbe
    by_cases hall : lineAt (bytes a1) = (bytes a1).length
    · have hE : lineE (bytes a1) = 0 := if_pos hall
      obtain ⟨gC, rfl⟩ := hsome hall
      have hC : lineCells (bytes a1) = (bytes a1).map (fun b => ((cellOf b : Nat) : Int)) := if_pos hall
      have m0 := Int.emod_nonneg a2 (show ((a1.size : Int) + 1) ≠ 0 by omega)
      have m1 := Int.emod_lt_of_pos a2 (show 0 < (a1.size : Int) + 1 by omega)
      obtain ⟨q, hq⟩ : ∃ q : Nat, a2 % ((a1.size : Int) + 1) = q := ⟨(a2 % ((a1.size : Int) + 1)).toNat, by omega⟩
      have hq1 : q ≤ a1.size := by omega
      have hq2 : (q : Int) ≤ (a1.size : Int) := by omega
      have HALL := Lib.hid (all_chars _ hall)
      rw [hall, hE, bytes_len]
      clear hall hE hsome hC m0 m1
      go_wp2_with fail
      refine (line_any _ _ ?_).mono ?_
      · rw [ByteArray.size_extract]; omega
      rintro e wg ⟨D, nD, kD, rfl, hnD, hseqD, hsomeD, hbg⟩
      have hDall : lineAt (bytes (a1.extract 0 q)) = (bytes (a1.extract 0 q)).length := by
        refine lineAt_all _ fun b hb => HALL.out b ?_
        rw [bytes_extract] at hb
        exact List.mem_of_mem_take (List.mem_of_mem_drop hb)
      obtain ⟨gD, rfl⟩ := hsomeD hDall
      rw [show lineE (bytes (a1.extract 0 q)) = 0 from if_pos hDall, hDall]
      rw [bytes_extract, List.drop_zero] at hnD hseqD ⊢
      have hseqC := (hseqC.keep hbg).more hbg.size
      have hbg := below_next hbf hbg
      clear hDall hsomeD hbf
      go_wp2_with fail
      refine (line_any _ _ ?_).mono ?_
      · rw [ByteArray.size_extract]; omega
      rintro e wh ⟨E, nE, kE, rfl, hnE, hseqE, hsomeE, hbh⟩
      have hEall : lineAt (bytes (a1.extract q a1.size)) = (bytes (a1.extract q a1.size)).length := by
        refine lineAt_all _ fun b hb => HALL.out b ?_
        rw [bytes_extract] at hb
        exact List.mem_of_mem_take (List.mem_of_mem_drop hb)
      obtain ⟨gE, rfl⟩ := hsomeE hEall
      rw [show lineE (bytes (a1.extract q a1.size)) = 0 from if_pos hEall, hEall]
      rw [bytes_extract, List.take_of_length_le (by rw [bytes_len]; exact Nat.le_refl _)] at hnE hseqE ⊢
      have hseqC := (hseqC.keep hbh).more hbh.size
      have hseqD := (hseqD.keep hbh).more hbh.size
      have hbh := below_next hbg hbh
      clear hEall hsomeE hbg hq hz
      have HS := Lib.hid (cells_split _ q HALL.out)
      obtain ⟨hsh, hval⟩ := show_line a1 HALL.out
      have hl1 : nC = nD + nE := by rw [← hnC, ← hnD, ← hnE, ← HS.out, List.length_append]
      have hnC20 : nC ≤ 20 := by
        have h3 : lineAt (bytes a1) = (bytes a1).length := lineAt_all _ HALL.out
        rw [← hnC, lineCells, if_pos h3, List.length_map, bytes_len]; omega
      have HV := Lib.hid hval
      have HSH := Lib.hid hsh
      have HNC := Lib.hid hnC
      have HND := Lib.hid hnD
      have HNE := Lib.hid hnE
      have HL1 := Lib.hid hl1
      have SC := Lib.hid hseqC
      have SD := Lib.hid hseqD
      have SE := Lib.hid hseqE
      have HBH := Lib.hid hbh
      clear hseqC hseqD hseqE hbh hnC hnD hnE hl1 hsh hval HALL
      generalize lineCells (bytes a1) = lc at *
      generalize lineCells (List.take q (bytes a1)) = ld at *
      generalize lineCells (List.drop q (bytes a1)) = le' at *
      obtain ⟨i0, hi, hz0, hz1, hz2⟩ := info_parts info_cell
      have own0 : Hid ((wh.alloc (.cells #[] 24)).ownsRow wh.heap.size 24 1 (.slice (some ⟨wh.heap.size, 0, none⟩) 0 0) 0 []) := World.ownsRow_lit wh #[] 0 (Nat.le_refl _) (by simp [maxLen]) rfl
      have bel0 : Hid (Below wh.heap.size wh (wh.alloc (.cells #[] 24))) := (Below.refl _ _).alloc (Nat.le_refl _) _
      have hbD : nD + nE ≤ 20 := by have := HL1.out; omega
      go_wp2_with (at_builtin; refine wpList_append_own _ rfl (.tmp 147) (.tmp 148) 29 rfl wh.heap.size 24 i0 (.int .u8 0) 1 1 Try.underlying29 hi hz0 hz1 hz2 rfl (by decide) _ _ _ rfl own0.out ⟨gD, 0, none⟩ nD kD (ld.map (Value.int .u8)) rfl ?c0 ?c1 ?c2 ?c3 ?c4 ?c5 ?_)
      case c0 => rw [List.length_map, HND.out]; omega
      case c1 => exact seq_news (SD.out.keep bel0.out)
      case c2 => exact ints_oneCell .u8 ld
      case c3 => unfold maxLen; omega
      case c4 => omega
      case c5 => simp
      intro v1 wi own1 grow1 _
      have bel1 : Below wh.heap.size wh wi := bel0.out.grown grow1 (by simp) (fun g hg => (own0.out.lt g hg).1)
      have BEL1 := Lib.hid bel1
      have OWN1 := Lib.hid own1
      clear own1 grow1 bel1 bel0 own0
      have hz1' := BEL1.out.size
      go_wp2_with (at_builtin; refine wpList_append_own _ rfl (.tmp 150) (.tmp 151) 29 rfl wh.heap.size 24 i0 (.int .u8 0) 1 1 Try.underlying29 hi hz0 hz1 hz2 rfl (by decide) _ _ _ rfl OWN1.out ⟨gE, 0, none⟩ nE kE (le'.map (Value.int .u8)) rfl ?d0 ?d1 ?d2 ?d3 ?d4 ?d5 ?_)
      case d0 => rw [List.length_map, HNE.out]; omega
      case d1 => exact seq_news (SE.out.keep BEL1.out)
      case d2 => exact ints_oneCell .u8 le'
      case d3 => unfold maxLen; omega
      case d4 => omega
      case d5 => exact hz1'
      intro v2 wj own2 grow2 _
      have bel2 : Below wh.heap.size wh wj := BEL1.out.grown grow2 hz1' (fun g hg => (OWN1.out.lt g hg).1)
      rw [← List.map_append, HS.out] at own2
      obtain ⟨F, kF, rfl, hnF, hseqF⟩ := own_slice own2
      have hseqC := (SC.out.keep bel2).more bel2.size
      have hbj := below_next HBH.out bel2
      clear own2 grow2 bel2 BEL1 OWN1 hz1' SC SD SE
      go_wp2_with fail
      refine (validAll_any _ _ _ lc _ HNC.out (by omega) hseqC (fun i => (getD_of_mem HV.out i).2)).mono ?_
      rintro e wk ⟨rfl, hbk⟩
      have hseqC := (hseqC.keep hbk).more hbk.size
      have hseqF := (hseqF.keep hbk).more hbk.size
      have hbk := below_next hbj hbk
      clear hbj
      go_wp2_with fail
      refine (show_lit _ _ _ lc a1 _ HNC.out HSH.out (by omega) hseqC (fun i => getD_of_mem HV.out i)).mono ?_
      rintro e wl ⟨rfl, hbl⟩
      have hseqC := (hseqC.keep hbl).more hbl.size
      have hseqF := (hseqF.keep hbl).more hbl.size
      have hbl := below_next hbk hbl
      clear hbk
      go_wp2_with fail
      refine (same_lit F _ _ _ kF _ lc lc _ hnF HNC.out hseqF hseqC (by omega) true (by simp)).mono ?_
      rintro e wm ⟨rfl, hbm⟩
      have hbm := below_next hbl hbm
      go_wp2
      go_ret
      exact ⟨rfl, hbm⟩
    · have hE : lineE (bytes a1) = 10 := if_neg hall
      have hC : lineCells (bytes a1) = [] := if_neg hall
      rw [hC] at hnC
      obtain rfl : nC = 0 := by simpa using hnC.symm
      have hlt := part_lt _ hall
      rw [bytes_len] at hlt
      have HB := Lib.hid (part_bad _ hall)
      have HT := Lib.hid (part_take (bytes a1))
      rw [hE]
      clear hall hE hC hsome hnC hseqC
      generalize hi : lineAt (bytes a1) = i at *
      clear hi
      have hi0 : (0 : Int) ≤ (i : Int) := by omega
      have hi1 : (i : Int) < (a1.size : Int) := by omega
      go_wp2_with fail
      obtain ⟨y, hy, hyc⟩ := HB.out
      have hyb := bytes_at a1 i hlt
      rw [hy] at hyb
      injection hyb with hyb
      have HYB := Lib.hid hyb
      have hy256 := bytes_lt a1 y (List.mem_of_getElem? hy)
      rw [← hyb]
      clear hy hyb HB
      refine (fromAscii_lit y 0 10 (by omega) (by omega) (by rw [Int.toNat_natCast, faC, if_neg hyc]) (by rw [Int.toNat_natCast, faE, if_neg hyc]) _).mono ?_
      rintro e wg ⟨rfl, hbg⟩
      have hbg := below_next hbf hbg
      clear hbf
      go_wp2_with fail
      have hTb : bytes (a1.extract 0 i) = (bytes a1).take i := by rw [bytes_extract, List.drop_zero]
      refine (line_lit (a1.extract 0 i) _ i 0 _ (by rw [hTb, HT.out.1]) (by rw [lineE, if_pos (by rw [hTb, HT.out.1, HT.out.2])]) rfl rfl (by rw [ByteArray.size_extract]; omega) _).mono ?_
      rintro e wh ⟨⟨D, kD, rfl, _⟩, hbh⟩
      have hbh := below_next hbg hbh
      clear hTb
      go_wp2
      go_ret
      exact ⟨rfl, hbh⟩

set_option maxRecDepth 100000 in
theorem lifted (os : Os) (started : os.Started) (H : Type) (enc : TypeId × Value → H) :
    ReturnsInHanded {} Try.checked os 5 .any (Rows.cellLinesSpec.pre6 enc Try.prog Try.f5 Rows.cellLinesRow.domain false) (Rows.cellLinesSpec.post enc Try.prog Try.f5 false true false false) := by
  refine returnsInHanded_of_change (C := Try.checked) own started (by kernel_rfl) Try.func5
    (ChangeSpec.witness6 (enc := enc) (C := Try.checked) false ⟨#[], #[.slice none 0 0, .string ByteArray.empty, .int .u8 0], []⟩ 8 (by kernel_rfl) (by kernel_rfl) (by kernel_rfl) (by kernel_rfl)) ?_
  intro W base args ds gs before hval0 hW hcnd _
  have hval : ∀ (j : Nat) t v, Try.f5.params[j]? = some t → args[j]? = some v → Value.okWide Try.prog W .any base t v := hval0
  have hW' := hW
  obtain ⟨p, q, hA0, hV, rfl, hfz, hnd⟩ := hW
  have hA : DataW.TrodAll enc Try.prog W 0 (fun _ => true) true Try.f5.params.toList args.toList ds p := hA0
  rw [Try.params5] at hA hval
  obtain ⟨v0, vs0, d0, ds0, p0, q0, hargs, rfl, rfl, h0, r0⟩ := trodAll_cons hA
  obtain ⟨v1, vs1, d1, ds1, p1, q1, rfl, rfl, rfl, h1, r1⟩ := trodAll_cons r0
  obtain ⟨v2, vs2, d2, ds2, p2, q2, rfl, rfl, rfl, h2, r2⟩ := trodAll_cons r1
  obtain ⟨rfl, rfl, rfl⟩ := trodAll_nil r2
  obtain rfl : args = #[v0, v1, v2] := by cases args; simp_all
  obtain ⟨rfl, rfl⟩ := trodVars_none hV
  have k0 := h0
  have lt0 : ∀ x ∈ p0, x.block < W.heap.size := by obtain ⟨m, hm⟩ := k0; exact DataW.trod_lt m _ _ _ hm
  have k1 := h1
  have lt1 : ∀ x ∈ p1, x.block < W.heap.size := by obtain ⟨m, hm⟩ := k1; exact DataW.trod_lt m _ _ _ hm
  have k2 := h2
  have lt2 : ∀ x ∈ p2, x.block < W.heap.size := by obtain ⟨m, hm⟩ := k2; exact DataW.trod_lt m _ _ _ hm
  obtain ⟨a0, n0, c0, z0, rfl, w0⟩ := open_row Try.underlying45 Try.underlying5 (by kernel_rfl) (hval 0 45 v0 rfl rfl) h0
  obtain ⟨a1, rfl, _, _, w1⟩ := Go.ChangeMaps.open_string Try.underlying9 (hval 1 9 v1 rfl rfl) h1
  obtain ⟨a2, rfl, _, _, w2⟩ := open_int Try.underlying5 (hval 2 5 v2 rfl rfl) h2
  clear hA0 hval0
  refine (walk a0 n0 c0 z0 a1 a2 W w0 w1 w2).mono fun e W' ⟨he, bel⟩ => ?_
  subst he
  exact ⟨_, rfl, _, _, _, [], _, [], hW', trodAll_mk1 (shut_bool Try.underlying4 _), (trodAll_cons_mk (Below.trod laidOut (by kernel_rfl) (of_decide_eq_true (by kernel_rfl)) k0 bel lt0) (trodAll_cons_mk (Below.trod laidOut (by kernel_rfl) (of_decide_eq_true (by kernel_rfl)) k1 bel lt1) (trodAll_cons_mk (Below.trod laidOut (by kernel_rfl) (of_decide_eq_true (by kernel_rfl)) k2 bel lt2) trodAll_mk0))), rfl, bel.frame _, fun h => by cases h⟩

theorem over : Rows.cellLinesRow.holds Try.pinned (OpenSpec.ofChange Rows.cellLinesSpec) :=
  OpenClaim.holds_of_wide 5 Try.f5 rfl rfl rfl rfl rfl rfl rfl ⟨rfl, rfl, rfl, rfl, rfl⟩ rfl rfl rfl rfl rfl (by kernel_rfl) Try.func5 (by kernel_rfl)
    (of_decide_eq_true (by kernel_rfl)) (by unfold Func.isWrapper; first | (rw [if_pos (by decide +kernel)]; kernel_rfl) | (rw [if_neg (by decide +kernel)]; exact ⟨rfl, rfl⟩))
    (fun os started H enc _ => lifted os started H enc)

theorem proved : Rows.CellLinesSaid := over
end Go.Proofs.Ytmbaebbhecfpdaa.cellLines
