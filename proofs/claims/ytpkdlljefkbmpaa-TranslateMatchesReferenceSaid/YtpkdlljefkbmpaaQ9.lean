/- Merged by program: Tab8 -/
import Derived.Test.YtpkdlljefkbmpaaQ3

/-! Package table: sound rules of the reference. -/
namespace Go.Proofs.Ytpkdlljefkbmpaa
open Go.RowKit


theorem cellsB_split (xs : List Int) : cellsB xs = (decide (1 ≤ xs.length) && decide (xs.length ≤ 4) && xs.all (fun z => decide (z < 63))) := rfl
theorem blanks_end (p : List Nat) (c : List Int) : blanksB p c = (if p.any isSp then decide (p.length = 1) && decide (c.length = 1) && inB 0 c else !inB 0 c) := by
 unfold blanksB
 congr 1
 rw [Bool.and_assoc]
 congr 1
 rw [Bool.eq_iff_iff]
 unfold eqB inB
 simp only [decide_eq_true_eq, Bool.and_eq_true]
 constructor
 ·
  rintro rfl; simp
 ·
  rintro ⟨h1, h2⟩
  match c, h1 with
  | [a], _ => simp at h2; rw [h2]
theorem any_step {l : List Nat} {j x : Nat} (h : l[j]? = some x) : (l.take (j + 1)).any isSp = ((l.take j).any isSp || isSp x) := by
 have hj : j < l.length := by
  rcases Nat.lt_or_ge j l.length with g | g
  ·
   exact g
  ·
   rw [List.getElem?_eq_none g] at h; cases h
 rw [List.getElem?_eq_getElem hj] at h
 injection h with h
 rw [List.take_succ_eq_append_getElem hj, List.any_append, h]; simp
theorem inB_step {l : List Int} {j : Nat} {x : Int} (h : l[j]? = some x) : inB 0 (l.take (j + 1)) = (inB 0 (l.take j) || (x == 0)) := by
 have hj : j < l.length := by
  rcases Nat.lt_or_ge j l.length with g | g
  ·
   exact g
  ·
   rw [List.getElem?_eq_none g] at h; cases h
 rw [List.getElem?_eq_getElem hj] at h
 injection h with h
 rw [List.take_succ_eq_append_getElem hj, h]
 unfold inB
 rw [Bool.eq_iff_iff]
 simp only [decide_eq_true_eq, List.mem_append, List.mem_singleton, Bool.or_eq_true, beq_iff_eq]
 constructor
 ·
  rintro (h | h)
  ·
   exact .inl h
  ·
   exact .inr h.symm
 ·
  rintro (h | h)
  ·
   exact .inl h
  ·
   exact .inr h.symm
set_option maxRecDepth 10000 in
set_option maxHeartbeats 4000000 in
theorem rSound_any (A : Option Addr) (n k : Nat) (x : Rule) (m : Int) (w : World) (hn : x.c.length = n) (hx : Seq w w.heap.size A x.c) (hfit : x.fits) :
  Calls Try.prog 135 #[.agg #[.string x.p, .slice A n k, .int .u8 x.l, .int .u8 x.r, .int .i64 x.f, .int .i64 x.t], .int .i64 m] w fun e w' => e = .returned (.bool (soundB x m)) ∧ Below w.heap.size w w' := by
 obtain ⟨hp, hmax, hcb, hl, hr, hf, ht⟩ := hfit
 rw [hn] at hmax
 obtain ⟨v, hv⟩ : ∃ v, soundB x m = v := ⟨_, rfl⟩
 rw [hv]
 unfold soundB at hv
 rw [cellsB_split, blanks_end, hn, bytes_len] at hv
 have HV := Lib.hid hv
 have HN := Lib.hid hn
 have HCB := Lib.hid hcb
 have HL := Lib.hid (bytes_len x.p)
 clear hn hv hcb
 have hbx : Hid (Below w.heap.size w (w.alloc (.cells #[.string x.p, .slice A n k, .int .u8 x.l, .int .u8 x.r, .int .i64 x.f, .int .i64 x.t] 99))) := below_box w _ _
 obtain ⟨b1, hb1⟩ : ∃ b, isTextB (bytes x.p) = b := ⟨_, rfl⟩
 have H1 := Lib.hid hb1
 rw [hb1] at HV
 clear hb1
 by_cases hbad : b1 = false ∨ ¬ x.p.size ≤ 4 ∨ ¬ 1 ≤ n ∨ ¬ n ≤ 4
 ·
  have hF : v = false := by
   rw [← HV.out]
   rcases hbad with h | h | h | h
   ·
    rw [h]; simp
   ·
    rw [show decide (x.p.size ≤ 4) = false from by simp; omega]; simp
   ·
    rw [show decide (1 ≤ n) = false from by simp; omega]; simp
   ·
    rw [show decide (n ≤ 4) = false from by simp; omega]; simp
  subst hF
  clear HV
  by_cases c1 : b1 = false
  ·
   subst c1
   clear hbad
   go_enter Try.func135, Try.ntmps135
   go_wp2_with (go_at_call 44; refine (rIsText_any _ _ (by omega)).mono ?_; rintro e w' ⟨rfl, rfl⟩; rw [H1.out])
   go_ret
   exact ⟨rfl, hbx.out⟩
  ·
   obtain rfl : b1 = true := by cases b1 <;> simp_all
   by_cases c2 : 4 < x.p.size
   ·
    clear hbad c1
    go_enter Try.func135, Try.ntmps135
    go_wp2_with (go_at_call 44; refine (rIsText_any _ _ (by omega)).mono ?_; rintro e w' ⟨rfl, rfl⟩; rw [H1.out])
    go_ret
    exact ⟨rfl, hbx.out⟩
   ·
    by_cases c3 : n < 1
    ·
     clear hbad c1
     have c2' : x.p.size ≤ 4 := by omega
     clear c2
     go_enter Try.func135, Try.ntmps135
     go_wp2_with (go_at_call 44; refine (rIsText_any _ _ (by omega)).mono ?_; rintro e w' ⟨rfl, rfl⟩; rw [H1.out])
     go_ret
     exact ⟨rfl, hbx.out⟩
    ·
     have c4 : 4 < n := by rcases hbad with h | h | h | h <;> first | (cases h) | omega
     have c2' : x.p.size ≤ 4 := by omega
     clear hbad c1 c2 c3
     go_enter Try.func135, Try.ntmps135
     go_wp2_with (go_at_call 44; refine (rIsText_any _ _ (by omega)).mono ?_; rintro e w' ⟨rfl, rfl⟩; rw [H1.out])
     go_ret
     exact ⟨rfl, hbx.out⟩
 ·
  obtain rfl : b1 = true := by cases b1 <;> simp_all
  have c2 : x.p.size ≤ 4 := by omega
  have c3 : 1 ≤ n := by omega
  have c4 : n ≤ 4 := by omega
  clear hbad
  by_cases hmm : (maskB x.l && maskB x.r && modeB x.f m && modeB x.t m) = true
  ·
   have hm' : (1 ≤ x.l ∧ x.l ≤ 63) ∧ (1 ≤ x.r ∧ x.r ≤ 63) ∧ (0 ≤ x.f ∧ x.f < m) ∧ (0 ≤ x.t ∧ x.t < m) := by
    unfold maskB modeB at hmm
    simp at hmm
    omega
   obtain ⟨⟨g1, g2⟩, ⟨g3, g4⟩, ⟨g5, g6⟩, ⟨g7, g8⟩⟩ := hm'
   have HVV : Hid ((x.c.all (fun z => decide (z < 63)) && (if (bytes x.p).any isSp then decide (x.p.size = 1) && decide (n = 1) && inB 0 x.c else !inB 0 x.c)) = v) := by
    unfold Hid
    rw [← HV.out, show decide (x.p.size ≤ 4) = true from by simpa using c2, show decide (1 ≤ n) = true from by simpa using c3, show decide (n ≤ 4) = true from by simpa using c4]
    simp only [Bool.and_eq_true] at hmm
    rw [hmm.1.1.1, hmm.1.1.2, hmm.1.2, hmm.2]; simp
   clear HV hmm
   go_enter Try.func135, Try.ntmps135
   go_wp2_with (go_at_call 44; refine (rIsText_any _ _ (by omega)).mono ?_; rintro e w' ⟨rfl, rfl⟩; rw [H1.out])
   clear hr hf ht hl
   go_loop [5, 7] (fun sp i => ∃ j : Nat, j ≤ x.p.size ∧ i = .int .i64 j ∧ sp = .bool (((bytes x.p).take j).any isSp)) (fun _ i => x.p.size - (intOf i).toNat)
   case atStart => exact ⟨0, by omega, rfl, rfl⟩
   case round =>
    obtain ⟨j, hj, rfl, rfl⟩ := hrel
    by_cases hlt : j < x.p.size
    ·
     have HAT := Lib.hid (bytes_at x.p j hlt)
     have hx8 := bytes_lt x.p _ (List.mem_of_getElem? (bytes_at x.p j hlt))
     generalize hxe : (x.p[j]'hlt).toNat = y at *
     have HXE := Lib.hid hxe
     obtain ⟨c, hc⟩ : ∃ c, isSp y = c := ⟨_, rfl⟩
     have HC := Lib.hid hc
     have HS := Lib.hid (any_step HAT.out)
     rw [hc] at HS
     clear hc
     generalize ((bytes x.p).take j).any isSp = b at *
     cases b
     ·
      go_wp2_with (go_at_call 163; refine (rSpace_any _ (by omega) (by omega) _).mono ?_; rintro e w' ⟨rfl, rfl⟩; rw [show isSpI y = c from HC.out])
      exact ⟨⟨j + 1, by omega, by go_num, by rw [HS.out]; rfl⟩, by simp [intOf]; omega⟩
     ·
      go_wp2
      exact ⟨⟨j + 1, by omega, by go_num, by rw [HS.out]; rfl⟩, by simp [intOf]; omega⟩
    ·
     have : j = x.p.size := by omega
     subst this
     have HTK : Hid ((bytes x.p).take x.p.size = bytes x.p) := List.take_of_length_le (by rw [HL.out]; exact Nat.le_refl _)
     rw [HTK.out]
     generalize (bytes x.p).any isSp = sp at *
     clear hj
     go_wp2_with fail
     go_loop [6, 8] (fun bl i => ∃ j : Nat, j ≤ n ∧ i = .int .i64 j ∧ bl = .bool (inB 0 (x.c.take j)) ∧ ∀ i z, i < j → x.c[i]? = some z → z < 63) (fun _ i => n - (intOf i).toNat)
     case atStart => exact ⟨0, by omega, rfl, rfl, fun i z h => absurd h (by omega)⟩
     case round =>
      obtain ⟨j, hj, rfl, rfl, hto⟩ := hrel
      have HTO := Lib.hid hto
      clear hto
      by_cases hlt : j < n
      ·
       obtain ⟨bk, o, e1, hB1, d1⟩ := hx (by have := HN.out; omega)
       subst e1
       have d1 := d1 j (by have := HN.out; omega)
       have HY : Hid (x.c[j]? = some (x.c[j]'(by have := HN.out; omega))) := List.getElem?_eq_getElem _
       have hbd := HCB.out _ (List.mem_of_getElem? HY.out)
       have HS := Lib.hid (inB_step HY.out)
       clear hx
       generalize x.c[j]'(by have := HN.out; omega) = y at *
       have d2 : (w.alloc (.cells #[.string x.p, .slice (some ⟨bk, o, none⟩) n k, .int .u8 x.l, .int .u8 x.r, .int .i64 x.f, .int .i64 x.t] 99)).cell? ⟨bk, o + j, none⟩ = some (.int .u8 y) := ((below_box w _ _).cell (p := ⟨bk, o + j, none⟩) hB1).trans d1
       have hj0 : (0 : Int) ≤ (j : Int) := by omega
       have hjn : (j : Int) < (n : Int) := by omega
       clear d1
       by_cases h63 : y < 63
       ·
        generalize inB 0 (x.c.take j) = b at *
        cases b
        ·
         go_wp2
         exact ⟨⟨j + 1, by omega, by go_num, by rw [HS.out]; rfl, all_step HTO.out HY.out h63⟩, by simp [intOf]; omega⟩
        ·
         go_wp2
         exact ⟨⟨j + 1, by omega, by go_num, by rw [HS.out]; rfl, all_step HTO.out HY.out h63⟩, by simp [intOf]; omega⟩
       ·
        have HF : Hid (false = v) := by
         unfold Hid
         rw [← HVV.out]
         have : x.c.all (fun z => decide (z < 63)) = false := by
          rw [List.all_eq_false]; exact ⟨y, List.mem_of_getElem? HY.out, by simp; omega⟩
         rw [this]; rfl
        go_wp2
        go_ret
        exact ⟨ret_bool HF.out, hbx.out⟩
      ·
       have : j = n := by omega
       subst this
       have HTK2 : Hid (x.c.take j = x.c) := List.take_of_length_le (by rw [HN.out]; exact Nat.le_refl _)
       rw [HTK2.out]
       have HALL : Hid (x.c.all (fun z => decide (z < 63)) = true) := by
        unfold Hid
        rw [List.all_eq_true]
        intro z hz
        obtain ⟨i, hi, e⟩ := List.getElem_of_mem hz
        simpa using HTO.out i z (by have := HN.out; omega) (by rw [List.getElem?_eq_getElem hi, e])
       have HVE := HVV.out
       rw [HALL.out, Bool.true_and] at HVE
       generalize inB 0 x.c = b at *
       have HVF := Lib.hid HVE
       clear HVE HVV
       cases sp
       ·
        go_wp2
        go_ret
        exact ⟨ret_bool (by rw [← HVF.out]; rfl), hbx.out⟩
       ·
        by_cases hp1 : x.p.size = 1
        ·
         have e1 : ((x.p.size : Int) == 1) = true := beq_iff_eq.2 (by omega)
         by_cases hn1 : j = 1
         ·
          have e2 : ((j : Int) == 1) = true := beq_iff_eq.2 (by omega)
          have P1 := Lib.hid hp1
          have N1 := Lib.hid hn1
          clear hp1 hn1
          go_wp2
          go_ret
          exact ⟨ret_bool (by rw [← HVF.out, show decide (x.p.size = 1) = true from by simp [P1.out], show decide (j = 1) = true from by simp [N1.out]]; rfl), hbx.out⟩
         ·
          have e2 : ((j : Int) == 1) = false := beq_eq_false_iff_ne.2 (by omega)
          have P1 := Lib.hid hp1
          have N1 := Lib.hid hn1
          clear hp1 hn1
          go_wp2
          go_ret
          exact ⟨ret_bool (by rw [← HVF.out, show decide (j = 1) = false from by simp [N1.out]]; simp), hbx.out⟩
        ·
         have e1 : ((x.p.size : Int) == 1) = false := beq_eq_false_iff_ne.2 (by omega)
         have P1 := Lib.hid hp1
         clear hp1
         go_wp2
         go_ret
         exact ⟨ret_bool (by rw [← HVF.out, show decide (x.p.size = 1) = false from by simp [P1.out]]; rfl), hbx.out⟩
  ·
   have hF : v = false := by
    rw [← HV.out]
    rw [Bool.eq_false_iff]
    intro h
    simp only [Bool.and_eq_true] at h
    exact hmm (by simp only [Bool.and_eq_true]; exact ⟨⟨⟨h.1.1.1.2, h.1.1.2⟩, h.1.2⟩, h.2⟩)
   subst hF
   have hm' : (x.l < 1) ∨ (1 ≤ x.l ∧ 63 < x.l) ∨ (1 ≤ x.l ∧ x.l ≤ 63 ∧ x.r < 1) ∨ (1 ≤ x.l ∧ x.l ≤ 63 ∧ 1 ≤ x.r ∧ 63 < x.r) ∨ (1 ≤ x.l ∧ x.l ≤ 63 ∧ 1 ≤ x.r ∧ x.r ≤ 63 ∧ x.f < 0) ∨ (1 ≤ x.l ∧ x.l ≤ 63 ∧ 1 ≤ x.r ∧ x.r ≤ 63 ∧ 0 ≤ x.f ∧ m ≤ x.f) ∨ (1 ≤ x.l ∧ x.l ≤ 63 ∧ 1 ≤ x.r ∧ x.r ≤ 63 ∧ 0 ≤ x.f ∧ x.f < m ∧ x.t < 0) ∨ (1 ≤ x.l ∧ x.l ≤ 63 ∧ 1 ≤ x.r ∧ x.r ≤ 63 ∧ 0 ≤ x.f ∧ x.f < m ∧ 0 ≤ x.t ∧ m ≤ x.t) := by
    unfold maskB modeB at hmm
    simp at hmm
    omega
   clear HV hmm
   rcases hm' with h1 | ⟨h1, h2⟩ | ⟨h1, h2, h3⟩ | ⟨h1, h2, h3, h4⟩ | ⟨h1, h2, h3, h4, h5⟩ | ⟨h1, h2, h3, h4, h5, h6⟩ | ⟨h1, h2, h3, h4, h5, h6, h7⟩ | ⟨h1, h2, h3, h4, h5, h6, h7, h8⟩
   all_goals
    go_enter Try.func135, Try.ntmps135
    go_wp2_with (go_at_call 44; refine (rIsText_any _ _ (by omega)).mono ?_; rintro e w' ⟨rfl, rfl⟩; rw [H1.out])
    go_ret
    exact ⟨rfl, hbx.out⟩
end Go.Proofs.Ytpkdlljefkbmpaa
