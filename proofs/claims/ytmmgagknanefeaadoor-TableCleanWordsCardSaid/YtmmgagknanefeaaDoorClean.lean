/- P2.2: for all strings: a text is clean exactly if its words are not empty. -/
import Derived.Test.YtmmgagknanefeaaDoorFrameT
namespace Go.Proofs.YtmmgagknanefeaaDoor
open Go.ChangeShapes Go.WideShapes Go.ChangeAt Go.WideMaps Go.WideElems Go.RowKit

theorem cw_step {l : List Nat} {j x : Nat} {want z c p : Bool} (hx : l[j]? = some x) (h : cleanB l = (want && isTextB (l.drop j) && cleanGo z (l.drop j))) (hc : isCh x = c) (hp : isSp x = p) :
    cleanB l = ((want && c && !(p && z)) && isTextB (l.drop (j + 1)) && cleanGo p (l.drop (j + 1))) := by
  rw [h, drop_at hx]
  simp only [isTextB, List.all_cons, cleanGo, hc, hp]
  cases want <;> cases c <;> cases p <;> cases z <;> simp
theorem cw_end {l : List Nat} {want z : Bool} (h : cleanB l = (want && isTextB (l.drop l.length) && cleanGo z (l.drop l.length))) : cleanB l = (want && !z) := by
  rw [h, List.drop_eq_nil_of_le (Nat.le_refl _)]; simp [isTextB, cleanGo]
set_option maxRecDepth 10000 in
set_option maxHeartbeats 1000000 in
theorem walk_clean (s : ByteArray) (w : World) (hL : Laid w) :
    Calls Tryd.prog 4 #[.string s] w fun e w' => e = .returned (.bool true) ∧ Below w.heap.size w w' := by
  go_enter Tryd.func4, Tryd.ntmps4
  go_wp2_with fail
  refine (sanity_any _ hL).mono ?_
  rintro e w1 ⟨rfl, hb⟩
  have HB := Lib.hid hb
  clear hb hL
  have hlen := bytes_len s
  by_cases h5 : s.size ≤ 500
  · have h5' : (s.size : Int) ≤ 500 := by omega
    obtain ⟨w0, hw0⟩ : ∃ b, decide ((s.size : Int) ≤ 400) = b := ⟨_, rfl⟩
    have HS : Hid (cleanB (bytes s) = (w0 && isTextB ((bytes s).drop 0) && cleanGo true ((bytes s).drop 0))) := by
      unfold Hid cleanB
      rw [← hw0, hlen, show decide (s.size ≤ 400) = decide ((s.size : Int) ≤ 400) from decide_eq_decide.2 (by omega)]
      simp
    have HLEN := Lib.hid hlen
    clear hlen
    go_wp2_with fail
    clear hw0
    go_loop [4, 5, 6] (fun n b i => ∃ (k j : Nat) (want : Bool), n = .int .i64 k ∧ b = .bool want ∧ i = .int .i64 j ∧ k ≤ j ∧ j ≤ s.size ∧ Hid (cleanB (bytes s) = (want && isTextB ((bytes s).drop j) && cleanGo (decide (k = 0)) ((bytes s).drop j)))) (fun _ _ i => s.size - (intOf i).toNat)
    case atStart => exact ⟨0, 0, w0, rfl, rfl, rfl, by omega, by omega, HS.out⟩
    case round =>
      obtain ⟨k, j, want, rfl, rfl, rfl, hkj, hj, HTO⟩ := hrel
      clear HS
      by_cases hlt : j < s.size
      · have HAT := Lib.hid (bytes_at s j hlt)
        have hx := bytes_lt s _ (List.mem_of_getElem? (bytes_at s j hlt))
        generalize hxe : (s[j]'hlt).toNat = x at *
        have HXE := Lib.hid hxe
        obtain ⟨c, hc⟩ : ∃ c, isCh x = c := ⟨_, rfl⟩
        have HC := Lib.hid hc
        obtain ⟨p, hp⟩ : ∃ c, isSp x = c := ⟨_, rfl⟩
        have HP := Lib.hid hp
        have ST := Lib.hid (cw_step HAT.out HTO.out hc hp)
        clear hc hp HTO
        by_cases hk : k = 0
        · subst hk
          go_wp2_with (first
            | (go_at_call 15; refine (rCharacter_any _ (by omega) (by omega) _).mono ?_; rintro e w' ⟨rfl, rfl⟩; rw [show isChI x = c from HC.out]; cases c)
            | (go_at_call 16; refine (rSpace_any _ (by omega) (by omega) _).mono ?_; rintro e w' ⟨rfl, rfl⟩; rw [show isSpI x = p from HP.out]; cases p))
          all_goals first
            | (refine ⟨⟨1, j + 1, _, rfl, rfl, by go_num, by omega, by omega, ?_⟩, by simp [intOf]; omega⟩; unfold Hid; rw [ST.out]; simp)
            | (refine ⟨⟨0, j + 1, _, rfl, rfl, by go_num, by omega, by omega, ?_⟩, by simp [intOf]; omega⟩; unfold Hid; rw [ST.out]; simp)
        · have hk2 : (0 : Int) < (k : Int) := by omega
          have hk3 : decide (k = 0) = false := decide_eq_false hk
          have hk4 : decide (k + 1 = 0) = false := decide_eq_false (by omega)
          have hk5 : decide (0 < k) = true := decide_eq_true (by omega)
          go_wp2_with (first
            | (go_at_call 15; refine (rCharacter_any _ (by omega) (by omega) _).mono ?_; rintro e w' ⟨rfl, rfl⟩; rw [show isChI x = c from HC.out]; cases c)
            | (go_at_call 16; refine (rSpace_any _ (by omega) (by omega) _).mono ?_; rintro e w' ⟨rfl, rfl⟩; rw [show isSpI x = p from HP.out]; cases p))
          all_goals first
            | (refine ⟨⟨k + 1, j + 1, _, by go_num, rfl, by go_num, by omega, by omega, ?_⟩, by simp [intOf]; omega⟩; unfold Hid; rw [ST.out]; simp [*])
            | (refine ⟨⟨0, j + 1, _, rfl, rfl, by go_num, by omega, by omega, ?_⟩, by simp [intOf]; omega⟩; unfold Hid; rw [ST.out]; simp [*])
      · have : j = s.size := by omega
        subst this
        have hen := HTO.out
        rw [← HLEN.out] at hen
        have EN := Lib.hid (cw_end hen)
        clear hen HTO
        by_cases hk : k = 0
        · subst hk
          go_wp2_with (go_at_call 13; refine (clean_lit _ _ EN.out (by omega) _).mono ?_; rintro e w' ⟨rfl, rfl⟩)
          all_goals (go_ret; exact ⟨rfl, HB.out⟩)
        · have hk2 : (0 : Int) < (k : Int) := by omega
          have hk3 : decide (k = 0) = false := decide_eq_false hk
          go_wp2_with (go_at_call 13; refine (clean_lit _ _ EN.out (by omega) _).mono ?_; rintro e w' ⟨rfl, rfl⟩)
          all_goals (go_ret; exact ⟨rfl, HB.out⟩)
  · have h5' : ¬ (s.size : Int) ≤ 500 := by omega
    go_wp2
    go_ret
    exact ⟨rfl, HB.out⟩
set_option maxRecDepth 100000 in
theorem lifted (os : Os) (started : os.Started) (H : Type) (enc : TypeId × Value → H) :
    ReturnsInHanded {} Tryd.checked os 4 .any (fun w args => (Rows.tableCleanWordsSpec.pre enc Tryd.prog Tryd.f4 [] false w args ∧ laidMetH Tryd.prog laidL w) ∧ sizedMet enc Tryd.prog Tryd.f4 (OpenSpec.ofChange Rows.tableCleanWordsSpec) false w args)
      (Rows.tableCleanWordsSpec.post enc Tryd.prog Tryd.f4 false true false false) := by
  refine returnsInHanded_of_change_and (C := Tryd.checked) (X := fun w _ => laidMetH Tryd.prog laidL w) (fun _ _ _ hh h => h.of_heap hh) own started (by kernel_rfl) Tryd.func4
    (ChangeSpec.witness_shaped (enc := enc) (C := Tryd.checked) (os := os) (X := fun w _ => laidMetH Tryd.prog laidL w) false (World.doorLaid Tryd.prog 400 os) #[.string ByteArray.empty] 8 rfl (World.shaped_of_RefB (by kernel_rfl) (by kernel_rfl)) (by kernel_rfl) (by kernel_rfl) (by kernel_rfl) (door_met os _)) ?_
  intro W base args ds gs before hval0 hW hcnd hsz0 hL _
  have hval : ∀ (j : Nat) t v, Tryd.f4.params[j]? = some t → args[j]? = some v → Value.okWide Tryd.prog W .any base t v := hval0
  have hW' := hW
  obtain ⟨p, q, hA0, hV, rfl, hfz, hnd⟩ := hW
  have hA : DataW.TrodAll enc Tryd.prog W 0 (fun _ => true) true Tryd.f4.params.toList args.toList ds p := hA0
  rw [Tryd.params4] at hA hval
  obtain ⟨v0, vs0, d0, ds0, p0, q0, hargs, rfl, rfl, h0, r0⟩ := trodAll_cons hA
  obtain ⟨rfl, rfl, rfl⟩ := trodAll_nil r0
  obtain rfl : args = #[v0] := by cases args; simp_all
  obtain ⟨rfl, rfl⟩ := trodVars_none hV
  have k0 := h0
  have lt0 : ∀ x ∈ p0, x.block < W.heap.size := by obtain ⟨m, hm⟩ := k0; exact DataW.trod_lt m _ _ _ hm
  obtain ⟨a0, rfl, _, _, w0⟩ := Go.ChangeMaps.open_string Tryd.underlying9 (hval 0 9 v0 rfl rfl) h0
  clear hA0 hval0
  refine (walk_clean a0 W (of_laid hL)).mono fun e W' ⟨he, bel⟩ => ?_
  subst he
  exact ⟨_, rfl, _, _, _, [], _, [], hW', trodAll_mk1 (shut_bool Tryd.underlying4 _), (trodAll_cons_mk (Below.trod laidOut (by kernel_rfl) (of_decide_eq_true (by kernel_rfl)) k0 bel lt0) trodAll_mk0), rfl, bel.frame _, fun h => by cases h⟩

theorem over : Rows.TableCleanWordsSaid :=
  OpenClaim.holds_of_wide 4 Tryd.f4 rfl rfl rfl rfl rfl rfl rfl ⟨rfl, rfl, rfl, rfl, rfl⟩ rfl rfl rfl rfl rfl (by kernel_rfl) Tryd.func4 (by kernel_rfl)
    (of_decide_eq_true (by kernel_rfl)) (by unfold Func.isWrapper; first | (rw [if_pos (by decide +kernel)]; kernel_rfl) | (rw [if_neg (by decide +kernel)]; exact ⟨rfl, rfl⟩))
    (fun os started H enc _ => lifted os started H enc)

theorem proved : Rows.TableCleanWordsCardSaid :=
  Claim7.holds_tied_plain_at .later [] [.data, .data, .data, .sentinel, .sentinel] true (true, "c18c62adea010eee9444321e409370a16f387a51dafbd9167593a52b4de1fdf2") true
    over (fun _ h => by cases h) (by kernel_rfl) (fun _ h => by cases h) tableCleanWords_row_tie rfl ⟨rfl, rfl⟩ (by kernel_rfl) rfl
    (fun f fn hf hfn => by
      obtain rfl : f = 4 := Option.some.inj ((show Tryd.prog.funcNamed "sixdot/sixdotlaw02.TableCleanWords" = some 4 by kernel_rfl).symm.trans hf) |>.symm
      obtain rfl : fn = Tryd.f4 := (Option.some.inj (Tryd.func4.symm.trans hfn)).symm
      exact ⟨by kernel_rfl, fun j t ht => by
        rw [Tryd.params4] at ht
        have hm : t ∈ [9] := by have := Array.mem_of_getElem? ht; simpa using this
        have hall : ([9].all fun u => !Tryd.prog.wantsStandIn u) = true := by kernel_rfl
        exact (show Tryd.prog.wantsStandIn t = false by simpa using List.all_eq_true.1 hall t hm)⟩)
    (by kernel_rfl)
end Go.Proofs.YtmmgagknanefeaaDoor
