/- P2.1, P2.2: for all strings and bytes: Class, Text and Clean agree with the reference; a string is a text exactly if both parts of it are. -/
import Derived.Test.YtmmgagknanefeaaDoorFrameT
import Derived.Test.YtmmgagknanefeaaDoorTab3
namespace Go.Proofs.YtmmgagknanefeaaDoor
open Go.ChangeShapes Go.WideShapes Go.ChangeAt Go.WideMaps Go.WideElems Go.RowKit

theorem bytes_extract (s : ByteArray) (a b : Nat) : bytes (s.extract a b) = ((bytes s).take b).drop a := by
  unfold bytes
  rw [ByteArray.data_extract, Array.toList_extract, List.extract_eq_take_drop, List.map_take, List.map_drop, List.drop_take]
theorem text_parts (s : ByteArray) (q : Nat) : (textE (bytes s) == 0) = ((textE (bytes (s.extract 0 q)) == 0) && (textE (bytes (s.extract q s.size)) == 0)) := by
  rw [textE_all, textE_all, textE_all, bytes_extract, bytes_extract, List.drop_zero, List.take_of_length_le (l := bytes s) (i := s.size) (by rw [bytes_len]; exact Nat.le_refl _)]
  unfold isTextB
  rw [← List.all_append, List.take_append_drop]
set_option maxRecDepth 10000 in
set_option maxHeartbeats 1000000 in
theorem walk_texts (s : ByteArray) (b n : Int) (w : World) (hb : 0 ≤ b ∧ b < 256) (hn : 0 ≤ n ∧ n < 65536) (hL : Laid w) :
    Calls Tryd.prog 3 #[.string s, .int .u8 b, .int .u16 n] w fun e w' => e = .returned (.bool true) ∧ Below w.heap.size w w' := by
  go_enter Tryd.func3, Tryd.ntmps3
  go_wp2_with fail
  refine (sanity_any _ hL).mono ?_
  rintro e w1 ⟨rfl, hbw⟩
  have HB := Lib.hid hbw
  clear hbw hL
  by_cases h5 : s.size ≤ 500
  · have h5' : (s.size : Int) ≤ 500 := by omega
    obtain ⟨ta, hta⟩ : ∃ x : Int, ((textAt (bytes s) : Nat) : Int) = x := ⟨_, rfl⟩
    obtain ⟨te, hte⟩ : ∃ x : Int, textE (bytes s) = x := ⟨_, rfl⟩
    obtain ⟨tc, htc⟩ : ∃ x : Bool, cleanB (bytes s) = x := ⟨_, rfl⟩
    obtain ⟨cb, hcb⟩ : ∃ x : Int, clsI b = x := ⟨_, rfl⟩
    have HTA := Lib.hid hta
    have HTE := Lib.hid hte
    have HTC := Lib.hid htc
    have HCB := Lib.hid hcb
    clear hta hte htc hcb
    go_wp2_with fail
    refine (text_lit s ta te ⟨HTA.out, HTE.out⟩ (by omega) _).mono ?_
    rintro e w' ⟨rfl, rfl⟩
    go_wp2_with fail
    refine (rText_any s _ (by omega)).mono ?_
    rintro e w' ⟨rfl, rfl⟩
    rw [HTA.out, HTE.out]
    go_wp2_with fail
    refine (class_lit b cb HCB.out hb _).mono ?_
    rintro e w' ⟨rfl, rfl⟩
    go_wp2_with fail
    refine (rClass_any b hb.1 hb.2 _).mono ?_
    rintro e w' ⟨rfl, rfl⟩
    rw [HCB.out]
    go_wp2_with fail
    refine (clean_lit s tc HTC.out (by omega) _).mono ?_
    rintro e w' ⟨rfl, rfl⟩
    go_wp2_with fail
    refine (rClean_any s _ (by omega)).mono ?_
    rintro e w' ⟨rfl, rfl⟩
    rw [HTC.out]
    obtain ⟨q, hq⟩ : ∃ q : Nat, n % ((s.size : Int) + 1) = (q : Int) := ⟨(n % ((s.size : Int) + 1)).toNat, by have := Int.emod_nonneg n (show ((s.size : Int) + 1) ≠ 0 by omega); omega⟩
    have hqs : (q : Int) ≤ (s.size : Int) := by have := Int.emod_lt_of_pos n (show 0 < ((s.size : Int) + 1) by omega); omega
    have hq0 : 0 ≤ (q : Int) := by omega
    have hqn : q ≤ s.size := by omega
    have hqt : ((q : Int)).toNat = q := by omega
    go_wp2_with fail
    obtain ⟨xa, hxa⟩ : ∃ x : Int, ((textAt (bytes (s.extract 0 q)) : Nat) : Int) = x := ⟨_, rfl⟩
    obtain ⟨x1, hx1⟩ : ∃ x : Int, textE (bytes (s.extract 0 q)) = x := ⟨_, rfl⟩
    obtain ⟨ya, hya⟩ : ∃ x : Int, ((textAt (bytes (s.extract q s.size)) : Nat) : Int) = x := ⟨_, rfl⟩
    obtain ⟨x2, hx2⟩ : ∃ x : Int, textE (bytes (s.extract q s.size)) = x := ⟨_, rfl⟩
    have TP := text_parts s q
    rw [HTE.out, hx1, hx2] at TP
    have HX := Lib.hid hxa
    have HX1 := Lib.hid hx1
    have HY := Lib.hid hya
    have HX2 := Lib.hid hx2
    have HP := Lib.hid TP
    clear hxa hx1 hya hx2 TP
    refine (text_lit (s.extract 0 q) xa x1 ⟨HX.out, HX1.out⟩ (by rw [ByteArray.size_extract]; omega) _).mono ?_
    rintro e w' ⟨rfl, rfl⟩
    go_wp2_with fail
    refine (text_lit (s.extract q s.size) ya x2 ⟨HY.out, HX2.out⟩ (by rw [ByteArray.size_extract]; omega) _).mono ?_
    rintro e w' ⟨rfl, rfl⟩
    have hp := HP.out
    have HTT := Lib.hid hb
    clear HTA HTE HTC HCB HX HX1 HY HX2 HP
    by_cases g1 : x1 = 0
    · subst g1
      by_cases g2 : x2 = 0
      · subst g2
        have g3 : te = 0 := by simpa using hp
        subst g3
        clear hp
        go_wp2
        go_ret
        exact ⟨rfl, HB.out⟩
      · have g3 : ¬ te = 0 := by intro h; rw [h] at hp; simp at hp; exact g2 hp
        have g4 : (x2 == 0) = false := beq_eq_false_iff_ne.2 g2
        have g5 : (te == 0) = false := beq_eq_false_iff_ne.2 g3
        clear hp
        go_wp2
        go_ret
        exact ⟨rfl, HB.out⟩
    · have g3 : ¬ te = 0 := by intro h; rw [h] at hp; simp at hp; exact g1 hp.1
      have g4 : (x1 == 0) = false := beq_eq_false_iff_ne.2 g1
      have g5 : (te == 0) = false := beq_eq_false_iff_ne.2 g3
      clear hp
      go_wp2
      go_ret
      exact ⟨rfl, HB.out⟩
  · have h5' : ¬ (s.size : Int) ≤ 500 := by omega
    go_wp2
    go_ret
    exact ⟨rfl, HB.out⟩
set_option maxRecDepth 100000 in
theorem liftedT (os : Os) (started : os.Started) (H : Type) (enc : TypeId × Value → H) :
    ReturnsInHanded {} Tryd.checked os 3 .any (fun w args => (Rows.tableTextsSpec.pre enc Tryd.prog Tryd.f3 [] false w args ∧ laidMetH Tryd.prog laidL w) ∧ sizedMet enc Tryd.prog Tryd.f3 (OpenSpec.ofChange Rows.tableTextsSpec) false w args)
      (Rows.tableTextsSpec.post enc Tryd.prog Tryd.f3 false true false false) := by
  refine returnsInHanded_of_change_and (C := Tryd.checked) (X := fun w _ => laidMetH Tryd.prog laidL w) (fun _ _ _ hh h => h.of_heap hh) own started (by kernel_rfl) Tryd.func3
    (ChangeSpec.witness_shaped (enc := enc) (C := Tryd.checked) (os := os) (X := fun w _ => laidMetH Tryd.prog laidL w) false (World.doorLaid Tryd.prog 400 os) #[.string ByteArray.empty, .int .u8 0, .int .u16 0] 8 rfl (World.shaped_of_RefB (by kernel_rfl) (by kernel_rfl)) (by kernel_rfl) (by kernel_rfl) (by kernel_rfl) (door_met os _)) ?_
  intro W base args ds gs before hval0 hW hcnd hsz0 hL _
  have hval : ∀ (j : Nat) t v, Tryd.f3.params[j]? = some t → args[j]? = some v → Value.okWide Tryd.prog W .any base t v := hval0
  have hW' := hW
  obtain ⟨p, q, hA0, hV, rfl, hfz, hnd⟩ := hW
  have hA : DataW.TrodAll enc Tryd.prog W 0 (fun _ => true) true Tryd.f3.params.toList args.toList ds p := hA0
  rw [Tryd.params3] at hA hval
  obtain ⟨v0, vs0, d0, ds0, p0, q0, hargs, rfl, rfl, h0, r0⟩ := trodAll_cons hA
  obtain ⟨v1, vs1, d1, ds1, p1, q1, rfl, rfl, rfl, h1, r1⟩ := trodAll_cons r0
  obtain ⟨v2, vs2, d2, ds2, p2, q2, rfl, rfl, rfl, h2, r2⟩ := trodAll_cons r1
  obtain ⟨rfl, rfl, rfl⟩ := trodAll_nil r2
  obtain rfl : args = #[v0, v1, v2] := by cases args; simp_all
  obtain ⟨rfl, rfl⟩ := trodVars_none hV
  have k0 := h0
  have lt0 : ∀ x ∈ p0, x.block < W.heap.size := by obtain ⟨m, hm⟩ := k0; exact DataW.trod_lt m _ _ _ hm
  have k1 := h1
  have lt1 : ∀ x ∈ p1, x.block < W.heap.size := by obtain ⟨m, hm⟩ := k1; exact DataW.trod_lt m _ _ _ hm
  have k2 := h2
  have lt2 : ∀ x ∈ p2, x.block < W.heap.size := by obtain ⟨m, hm⟩ := k2; exact DataW.trod_lt m _ _ _ hm
  obtain ⟨a0, rfl, _, _, w0⟩ := Go.ChangeMaps.open_string Tryd.underlying9 (hval 0 9 v0 rfl rfl) h0
  obtain ⟨a1, rfl, _, _, w1⟩ := open_int Tryd.underlying5 (hval 1 5 v1 rfl rfl) h1
  obtain ⟨a2, rfl, _, _, w2⟩ := open_int Tryd.underlying22 (hval 2 22 v2 rfl rfl) h2
  clear hA0 hval0
  refine (walk_texts a0 a1 a2 W ⟨(bounds_u8 w1).1, by have := (bounds_u8 w1).2; omega⟩ ⟨(bounds_u16 w2).1, by have := (bounds_u16 w2).2; omega⟩ (of_laid hL)).mono fun e W' ⟨he, bel⟩ => ?_
  subst he
  exact ⟨_, rfl, _, _, _, [], _, [], hW', trodAll_mk1 (shut_bool Tryd.underlying4 _), (trodAll_cons_mk (Below.trod laidOut (by kernel_rfl) (of_decide_eq_true (by kernel_rfl)) k0 bel lt0) (trodAll_cons_mk (Below.trod laidOut (by kernel_rfl) (of_decide_eq_true (by kernel_rfl)) k1 bel lt1) (trodAll_cons_mk (Below.trod laidOut (by kernel_rfl) (of_decide_eq_true (by kernel_rfl)) k2 bel lt2) trodAll_mk0))), rfl, bel.frame _, fun h => by cases h⟩

theorem overT : Rows.TableTextsSaid :=
  OpenClaim.holds_of_wide 3 Tryd.f3 rfl rfl rfl rfl rfl rfl rfl ⟨rfl, rfl, rfl, rfl, rfl⟩ rfl rfl rfl rfl rfl (by kernel_rfl) Tryd.func3 (by kernel_rfl)
    (of_decide_eq_true (by kernel_rfl)) (by unfold Func.isWrapper; first | (rw [if_pos (by decide +kernel)]; kernel_rfl) | (rw [if_neg (by decide +kernel)]; exact ⟨rfl, rfl⟩))
    (fun os started H enc _ => liftedT os started H enc)

theorem provedT : Rows.TableTextsCardSaid :=
  Claim7.holds_tied_plain_at .later [] [.data, .data, .data, .sentinel, .sentinel] true (true, "c18c62adea010eee9444321e409370a16f387a51dafbd9167593a52b4de1fdf2") true
    overT (fun _ h => by cases h) (by kernel_rfl) (fun _ h => by cases h) tableTexts_row_tie rfl ⟨rfl, rfl⟩ (by kernel_rfl) rfl
    (fun f fn hf hfn => by
      obtain rfl : f = 3 := Option.some.inj ((show Tryd.prog.funcNamed "sixdot/sixdotlaw02.TableTexts" = some 3 by kernel_rfl).symm.trans hf) |>.symm
      obtain rfl : fn = Tryd.f3 := (Option.some.inj (Tryd.func3.symm.trans hfn)).symm
      exact ⟨by kernel_rfl, fun j t ht => by
        rw [Tryd.params3] at ht
        have hm : t ∈ [9, 5, 22] := by have := Array.mem_of_getElem? ht; simpa using this
        have hall : ([9, 5, 22].all fun u => !Tryd.prog.wantsStandIn u) = true := by kernel_rfl
        exact (show Tryd.prog.wantsStandIn t = false by simpa using List.all_eq_true.1 hall t hm)⟩)
    (by kernel_rfl)
end Go.Proofs.YtmmgagknanefeaaDoor
