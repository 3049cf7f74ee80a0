/- P1.1: for all bytes and strings: all functions of package cell agree with the reference implementation (texts of at most 12 bytes). No condition. -/
import Derived.Test.YtmbaebbhecfpdaaS
import Derived.Test.YtmbaebbhecfpdaaDoubt
import Derived.Deep.RegionHeld3
namespace Go.Proofs.Ytmbaebbhecfpdaa
open Go.RowKit
theorem rValid_any (c : Int) (w : World) :
    Calls Try.prog 18 #[.int .u8 c] w fun e w' => e = .returned (.bool (decide (c ≤ 63))) ∧ w = w' := by
  have h : Hid (decide (c < 64) = decide (c ≤ 63)) := by unfold Hid; rw [Bool.eq_iff_iff]; simp; omega
  go_enter Try.func18, Try.ntmps18
  go_wp2
  go_ret
  exact ⟨ret_bool h.out, rfl⟩
theorem rValid_lit (c : Int) (r : Bool) (hr : decide (c ≤ 63) = r) (w : World) :
    Calls Try.prog 18 #[.int .u8 c] w fun e w' => e = .returned (.bool r) ∧ w = w' := by rw [← hr]; exact rValid_any c w
theorem rDots_lit (c : Nat) (t : ByteArray) (hc : c < 64) (ht : strOf (dotsText c) = t) (w : World) :
    Calls Try.prog 20 #[.int .u8 c] w fun e w' => e = .returned (.string t) ∧ w = w' := by rw [← ht]; exact rDots_any c hc w
theorem rAscii_lit (c : Nat) (d : Int) (hc : c < 64) (hd : charI c = d) (w : World) :
    Calls Try.prog 22 #[.int .u8 c] w fun e w' => e = .returned (.int .u8 d) ∧ w = w' := by rw [← hd]; exact rAscii_any c hc w
theorem rDistance_lit (a b : Nat) (d : Int) (ha : a < 64) (hb : b < 64) (hd : distI a b = d) (w : World) :
    Calls Try.prog 24 #[.int .u8 a, .int .u8 b] w fun e w' => e = .returned (.int .i64 d) ∧ w = w' := by rw [← hd]; exact rDistance_any a b ha hb w
theorem rMirror_lit (c : Nat) (d : Int) (hc : c < 64) (hd : mirI c = d) (w : World) :
    Calls Try.prog 26 #[.int .u8 c] w fun e w' => e = .returned (.int .u8 d) ∧ w = w' := by rw [← hd]; exact rMirror_any c hc w
theorem rFits_lit (u m c : Nat) (r : Bool) (hu : u < 64) (hm : m < 64) (hc : c < 64) (hr : fitsI u m c = r) (w : World) :
    Calls Try.prog 28 #[.agg #[.int .u8 u, .int .u8 m], .int .u8 c] w fun e w' => e = .returned (.bool r) ∧ Below w.heap.size w w' := by rw [← hr]; exact rFits_any u m c hu hm hc w
theorem rCost_lit (u m c : Nat) (d : Int) (hu : u < 64) (hm : m < 64) (hc : c < 64) (hd : costI u m c = d) (w : World) :
    Calls Try.prog 30 #[.agg #[.int .u8 u, .int .u8 m], .int .u8 c] w fun e w' => e = .returned (.int .i64 d) ∧ Below w.heap.size w w' := by rw [← hd]; exact rCost_any u m c hu hm hc w
end Go.Proofs.Ytmbaebbhecfpdaa
namespace Go.Proofs.Ytmbaebbhecfpdaa.cellMatchesReference
open Go.ChangeShapes Go.WideShapes Go.ChangeAt Go.RowKit
set_option linter.unusedVariables false

theorem keepC {g : Nat} {w0 w' w'' : World} {x u m : Int} (hb : Below w'.heap.size w' w'')
    (h : Below w0.heap.size w0 w' ∧ w0.heap.size < w'.heap.size ∧ g < w'.heap.size ∧ w'.cell? ⟨w0.heap.size, 0, none⟩ = some (.int .u8 x) ∧ w'.cell? ⟨g, 0, none⟩ = some (.int .u8 u) ∧ w'.cell? ⟨g, 1, none⟩ = some (.int .u8 m)) :
    Below w0.heap.size w0 w'' ∧ w0.heap.size < w''.heap.size ∧ g < w''.heap.size ∧ w''.cell? ⟨w0.heap.size, 0, none⟩ = some (.int .u8 x) ∧ w''.cell? ⟨g, 0, none⟩ = some (.int .u8 u) ∧ w''.cell? ⟨g, 1, none⟩ = some (.int .u8 m) := by
  obtain ⟨h1, h3, h4, h5, h6, h7⟩ := h
  have hs := hb.size
  exact ⟨h1.trans (hb.mono (by have := h1.size; omega)), by omega, by omega, (hb.cell (p := ⟨w0.heap.size, 0, none⟩) h3).trans h5, (hb.cell (p := ⟨g, 0, none⟩) h4).trans h6, (hb.cell (p := ⟨g, 1, none⟩) h4).trans h7⟩

set_option maxRecDepth 100000 in
set_option maxHeartbeats 4000000 in
theorem walk (a0 : List Int) (a1 : ByteArray) (a2 : Int) (w : World) (l0 : a0.length = 2) (w0 : ∀ z ∈ a0, (Lit.int .u8 z).wf = true) (w1 : a1.size ≤ maxLen) (w2 : (Lit.int .u8 a2).wf = true) :
    Calls Try.prog 3 #[.agg (a0.map (Value.int .u8)).toArray, .string a1, .int .u8 a2] w fun e w' => e = .returned (.bool true) ∧ Below w.heap.size w w' := by
  match a0, l0, w0 with
  | [x, y], _, w0 =>
  have hx := bounds_u8 (w0 x (by simp))
  have hy := bounds_u8 (w0 y (by simp))
  have hz := bounds_u8 w2
  unfold maxLen at w1
  clear w0 w2
  obtain ⟨b, rfl⟩ := Int.eq_ofNat_of_zero_le hz.1
  have hb256 : b < 256 := by omega
  clear hz
  simp only [List.map_cons, List.map_nil]
  go_enter Try.func3, Try.ntmps3
  go_wp2_with fail
  refine (sanity_any _).mono ?_
  rintro e wa ⟨rfl, hba⟩
  have hblk : Blk wa w.heap.size 22 #[.int .u8 x, .int .u8 y] := (Blk.new w _ _).keep hba (by simp)
  have hbw : Below w.heap.size w wa := (((Below.refl _ _).alloc (Nat.le_refl _) _).trans (hba.mono (by simp)))
  clear hba
  have c0 := hblk.cell 0
  have c1 := hblk.cell 1
  simp at c0 c1
  go_wp2_with fail
  refine (fromAscii_any b (by omega) (by omega) _).mono ?_
  rintro e wb ⟨rfl, hbb⟩
  replace hblk := hblk.keep hbb hblk.lt
  replace hbb := below_next hbw hbb
  clear hbw c0 c1
  rw [Int.toNat_natCast]
  go_wp2_with fail
  refine (rFromAscii_any b hb256 _).mono ?_
  rintro e _ ⟨rfl, rfl⟩
  by_cases h12 : 12 < a1.size
  · have h12' : (12 : Int) < (a1.size : Int) := by omega
    go_wp2
    go_ret
    exact ⟨rfl, hbb⟩
  have h12' : ¬ (12 : Int) < (a1.size : Int) := by omega
  go_wp2_with fail
  refine (parse_any a1 _ (by omega)).mono ?_
  rintro e wc ⟨rfl, hbc⟩
  replace hblk := hblk.keep hbc hblk.lt
  replace hbc := below_next hbb hbc
  clear hbb
  go_wp2_with fail
  refine (rParse_any a1 _).mono ?_
  rintro e _ ⟨rfl, rfl⟩
  go_wp2_with fail
  refine (line_any a1 _ (by omega)).mono ?_
  rintro e wd ⟨A1, n1, k1, rfl, hn1, hseq1, _, hbd⟩
  replace hblk := hblk.keep hbd hblk.lt
  replace hbd := below_next hbc hbd
  clear hbc
  go_wp2_with fail
  refine (rLine_any a1 _ (by omega)).mono ?_
  rintro e we ⟨A2, n2, k2, rfl, hn2, hseq2, hbe⟩
  replace hseq1 := (hseq1.keep hbe).more hbe.size
  replace hblk := hblk.keep hbe hblk.lt
  replace hbe := below_next hbd hbe
  clear hbd
  have hl20 : (lineCells (bytes a1)).length ≤ 12 := by
    unfold lineCells; split
    · rw [List.length_map, bytes_len]; omega
    · simp
  generalize lineCells (bytes a1) = lc at *
  generalize lineE (bytes a1) = le' at *
  generalize lineAt (bytes a1) = la at *
  generalize paC (bytes a1) = pc at *
  generalize paE (bytes a1) = pe at *
  generalize faC b = fc at *
  generalize faE b = fe at *
  have HN1 := Lib.hid hn1
  have HN2 := Lib.hid hn2
  clear hn1 hn2
  go_wp2_with fail
  refine (same_lit A1 A2 _ _ k1 k2 lc lc _ HN1.out HN2.out hseq1 hseq2 (by have := HN1.out; omega) true (by simp)).mono ?_
  rintro e wf ⟨rfl, hbf⟩
  replace hblk := hblk.keep hbf hblk.lt
  replace hbf := below_next hbe hbf
  have c0 := hblk.cell 0
  have c1 := hblk.cell 1
  simp at c0 c1
  clear hbe hseq1 hseq2 hl20
  go_wp2_with fail
  refine (felt_any x y (by omega) (by omega) (by omega) (by omega) _).mono ?_
  rintro e wg ⟨rfl, hbg⟩
  replace hblk := hblk.keep hbg hblk.lt
  replace hbg := below_next hbf hbg
  clear hbf c0 c1
  obtain ⟨u, hu⟩ : ∃ u : Nat, x % 64 = u := ⟨(x % 64).toNat, by omega⟩
  obtain ⟨m, hm⟩ : ∃ m : Nat, y % 64 = m := ⟨(y % 64).toNat, by omega⟩
  obtain ⟨c, hc⟩ : ∃ c : Nat, (b : Int) % 64 = c := ⟨b % 64, by omega⟩
  have hu64 : u < 64 := by omega
  have hm64 : m < 64 := by omega
  have hc64 : c < 64 := by omega
  rw [hu, hm]
  go_wp2_with fail
  have hS : Below w.heap.size w (wg.alloc (.cells #[.int .u8 (u : Nat), .int .u8 (m : Nat)] 34)) ∧ w.heap.size < (wg.alloc (.cells #[.int .u8 (u : Nat), .int .u8 (m : Nat)] 34)).heap.size ∧ wg.heap.size < (wg.alloc (.cells #[.int .u8 (u : Nat), .int .u8 (m : Nat)] 34)).heap.size ∧ (wg.alloc (.cells #[.int .u8 (u : Nat), .int .u8 (m : Nat)] 34)).cell? ⟨w.heap.size, 0, none⟩ = some (.int .u8 x) ∧ (wg.alloc (.cells #[.int .u8 (u : Nat), .int .u8 (m : Nat)] 34)).cell? ⟨wg.heap.size, 0, none⟩ = some (.int .u8 (u : Nat)) ∧ (wg.alloc (.cells #[.int .u8 (u : Nat), .int .u8 (m : Nat)] 34)).cell? ⟨wg.heap.size, 1, none⟩ = some (.int .u8 (m : Nat)) := by
    have hnew : Blk (wg.alloc (.cells #[.int .u8 (u : Nat), .int .u8 (m : Nat)] 34)) wg.heap.size 34 #[.int .u8 (u : Nat), .int .u8 (m : Nat)] := Blk.new _ _ _
    have hold := hblk.keep ((Below.refl wg.heap.size wg).alloc (Nat.le_refl _) (.cells #[.int .u8 (u : Nat), .int .u8 (m : Nat)] 34)) hblk.lt
    exact ⟨hbg.alloc hbg.size _, hold.lt, hnew.lt, by rw [hold.cell 0]; rfl, by rw [hnew.cell 0]; rfl, by rw [hnew.cell 1]; rfl⟩
  clear hblk hbg
  generalize wg.alloc (.cells #[.int .u8 (u : Nat), .int .u8 (m : Nat)] 34) = W at *
  generalize wg.heap.size = g at *
  clear hu hm h12 h12' HN1 HN2 hb256
  have hcb : (0 : Int) ≤ (c : Int) ∧ (c : Int) < 64 := by omega
  have hub : (0 : Int) ≤ (u : Int) ∧ (u : Int) < 64 := by omega
  have hmb : (0 : Int) ≤ (m : Int) ∧ (m : Int) < 64 := by omega
  clear hy w1
  have hct : (b : Int).tmod 64 = (c : Int) := by rw [Int.tmod_eq_emod_of_nonneg (by omega)]; exact hc
  clear hc
  obtain ⟨V, HV⟩ : ∃ V, Hid (decide (x ≤ 63) = V) := ⟨_, rfl⟩
  obtain ⟨T, HT⟩ : ∃ T, Hid (strOf (dotsText u) = T) := ⟨_, rfl⟩
  obtain ⟨A, HA⟩ : ∃ A, Hid (charI u = A) := ⟨_, rfl⟩
  obtain ⟨D, HD⟩ : ∃ D, Hid (distI u m = D) := ⟨_, rfl⟩
  obtain ⟨M, HM⟩ : ∃ M, Hid (mirI u = M) := ⟨_, rfl⟩
  obtain ⟨F, HF⟩ : ∃ F, Hid (fitsI u m c = F) := ⟨_, rfl⟩
  obtain ⟨C, HC⟩ : ∃ C, Hid (costI u m c = C) := ⟨_, rfl⟩
  go_region_held3 (fun w' => Below w.heap.size w w' ∧ w.heap.size < w'.heap.size ∧ g < w'.heap.size ∧ w'.cell? ⟨w.heap.size, 0, none⟩ = some (.int .u8 x) ∧ w'.cell? ⟨g, 0, none⟩ = some (.int .u8 (u : Nat)) ∧ w'.cell? ⟨g, 1, none⟩ = some (.int .u8 (m : Nat))) (first | assumption | (apply keepC; (first | assumption | exact Below.drew (Below.refl _ _)); assumption))
    (first | (go_at_call 17; refine (valid_lit _ V HV.out _).mono ?_; rintro e _ ⟨rfl, rfl⟩) | (go_at_call 18; refine (rValid_lit _ V HV.out _).mono ?_; rintro e _ ⟨rfl, rfl⟩) | (go_at_call 19; refine (dots_lit _ T hu64 HT.out _).mono ?_; rintro e w1 ⟨rfl, hb1⟩) | (go_at_call 20; refine (rDots_lit _ T hu64 HT.out _).mono ?_; rintro e _ ⟨rfl, rfl⟩) | (go_at_call 21; refine (ascii_lit _ A (by omega) (by omega) HA.out _).mono ?_; rintro e _ ⟨rfl, rfl⟩) | (go_at_call 22; refine (rAscii_lit _ A hu64 HA.out _).mono ?_; rintro e _ ⟨rfl, rfl⟩) | (go_at_call 23; refine (distance_lit _ _ D (by omega) (by omega) (by omega) (by omega) HD.out _).mono ?_; rintro e _ ⟨rfl, rfl⟩) | (go_at_call 24; refine (rDistance_lit _ _ D hu64 hm64 HD.out _).mono ?_; rintro e _ ⟨rfl, rfl⟩) | (go_at_call 25; refine (mirror_lit _ M (by omega) (by omega) HM.out _).mono ?_; rintro e _ ⟨rfl, rfl⟩) | (go_at_call 26; refine (rMirror_lit _ M hu64 HM.out _).mono ?_; rintro e _ ⟨rfl, rfl⟩) | (go_at_call 27; refine (fits_lit _ _ _ F HF.out _).mono ?_; rintro e w1 ⟨rfl, hb1⟩) | (go_at_call 28; refine (rFits_lit _ _ _ F hu64 hm64 hc64 HF.out _).mono ?_; rintro e w1 ⟨rfl, hb1⟩) | (go_at_call 29; refine (cost_lit _ _ _ C (by omega) (by omega) (by omega) HC.out _).mono ?_; rintro e w1 ⟨rfl, hb1⟩) | (go_at_call 30; refine (rCost_lit _ _ _ C hu64 hm64 hc64 HC.out _).mono ?_; rintro e w1 ⟨rfl, hb1⟩))
  go_wp2
  go_ret
  exact ⟨rfl, And.left (by assumption)⟩

set_option maxRecDepth 100000 in
theorem lifted (os : Os) (started : os.Started) (H : Type) (enc : TypeId × Value → H) :
    ReturnsInHanded {} Try.checked os 3 .any (Rows.cellMatchesReferenceSpec.pre6 enc Try.prog Try.f3 Rows.cellMatchesReferenceRow.domain false) (Rows.cellMatchesReferenceSpec.post enc Try.prog Try.f3 false true false false) := by
  refine returnsInHanded_of_change (C := Try.checked) own started (by kernel_rfl) Try.func3
    (ChangeSpec.witness6 (enc := enc) (C := Try.checked) false ⟨#[], #[.agg #[.int .u8 0, .int .u8 0], .string ByteArray.empty, .int .u8 0], []⟩ 8 (by kernel_rfl) (by kernel_rfl) (by kernel_rfl) (by kernel_rfl)) ?_
  intro W base args ds gs before hval0 hW hcnd _
  have hval : ∀ (j : Nat) t v, Try.f3.params[j]? = some t → args[j]? = some v → Value.okWide Try.prog W .any base t v := hval0
  have hW' := hW
  obtain ⟨p, q, hA0, hV, rfl, hfz, hnd⟩ := hW
  have hA : DataW.TrodAll enc Try.prog W 0 (fun _ => true) true Try.f3.params.toList args.toList ds p := hA0
  rw [Try.params3] at hA hval
  obtain ⟨v0, vs0, d0, ds0, p0, q0, hargs, rfl, rfl, h0, r0⟩ := trodAll_cons hA
  obtain ⟨v1, vs1, d1, ds1, p1, q1, rfl, rfl, rfl, h1, r1⟩ := trodAll_cons r0
  obtain ⟨v2, vs2, d2, ds2, p2, q2, rfl, rfl, rfl, h2, r2⟩ := trodAll_cons r1
  obtain ⟨rfl, rfl, rfl⟩ := trodAll_nil r2
  obtain rfl : args = #[v0, v1, v2] := by cases args; simp_all
  obtain ⟨rfl, rfl⟩ := trodVars_none hV
  have k0 := h0
  have lt0 : ∀ x ∈ p0, x.block < W.heap.size := by obtain ⟨m, hm⟩ := k0; exact DataW.trod_lt m _ _ _ hm
  have k1 := h1
  have lt1 : ∀ x ∈ p1, x.block < W.heap.size := by obtain ⟨m, hm⟩ := k1; exact DataW.trod_lt m _ _ _ hm
  have k2 := h2
  have lt2 : ∀ x ∈ p2, x.block < W.heap.size := by obtain ⟨m, hm⟩ := k2; exact DataW.trod_lt m _ _ _ hm
  obtain ⟨a0, l0, rfl, w0⟩ := open_arr Try.underlying22 Try.underlying5 (by kernel_rfl) (by kernel_rfl) (hval 0 22 v0 rfl rfl) h0
  obtain ⟨a1, rfl, _, _, w1⟩ := Go.ChangeMaps.open_string Try.underlying9 (hval 1 9 v1 rfl rfl) h1
  obtain ⟨a2, rfl, _, _, w2⟩ := open_int Try.underlying5 (hval 2 5 v2 rfl rfl) h2
  clear hA0 hval0
  refine (walk a0 a1 a2 W l0 w0 w1 w2).mono fun e W' ⟨he, bel⟩ => ?_
  subst he
  exact ⟨_, rfl, _, _, _, [], _, [], hW', trodAll_mk1 (shut_bool Try.underlying4 _), (trodAll_cons_mk (Below.trod laidOut (by kernel_rfl) (of_decide_eq_true (by kernel_rfl)) k0 bel lt0) (trodAll_cons_mk (Below.trod laidOut (by kernel_rfl) (of_decide_eq_true (by kernel_rfl)) k1 bel lt1) (trodAll_cons_mk (Below.trod laidOut (by kernel_rfl) (of_decide_eq_true (by kernel_rfl)) k2 bel lt2) trodAll_mk0))), rfl, bel.frame _, fun h => by cases h⟩

theorem over : Rows.cellMatchesReferenceRow.holds Try.pinned (OpenSpec.ofChange Rows.cellMatchesReferenceSpec) :=
  OpenClaim.holds_of_wide 3 Try.f3 rfl rfl rfl rfl rfl rfl rfl ⟨rfl, rfl, rfl, rfl, rfl⟩ rfl rfl rfl rfl rfl (by kernel_rfl) Try.func3 (by kernel_rfl)
    (of_decide_eq_true (by kernel_rfl)) (by unfold Func.isWrapper; first | (rw [if_pos (by decide +kernel)]; kernel_rfl) | (rw [if_neg (by decide +kernel)]; exact ⟨rfl, rfl⟩))
    (fun os started H enc _ => lifted os started H enc)

theorem proved : Rows.CellMatchesReferenceSaid := over
end Go.Proofs.Ytmbaebbhecfpdaa.cellMatchesReference
