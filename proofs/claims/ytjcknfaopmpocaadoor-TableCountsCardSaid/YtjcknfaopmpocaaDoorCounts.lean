/- P2.1: tables with too many rules, modes or accepting modes are refused; up to the limits they are accepted: TableCounts returns true for all arguments. No condition, but what the row's own premises say of the library's variables. -/
import Derived.Test.YtjcknfaopmpocaaDoorFrameT
import Derived.Test.YtjcknfaopmpocaaDoorCountsP
import Derived.Test.YtjcknfaopmpocaaDoorMake3
import Derived.Deep.LoopGhost
namespace Go.Proofs.YtjcknfaopmpocaaDoor
open Go.ChangeShapes Go.WideShapes Go.ChangeAt Go.WideMaps Go.WideElems Go.RowKit

theorem MadeB.ruC {w : World} {base lo n k : Nat} {A : Option Addr} {rs : List Rule} (h : MadeB w base lo (.slice A n k) rs) : n = rs.length ∧ Rules w w.heap.size A rs ∧ n ≤ k := by
  obtain ⟨A2, k2, e, h1, h2⟩ := h.rules
  injection e with e1 e2 e3
  subst e1 e2 e3
  exact ⟨rfl, h1, h2⟩
theorem MadeB.none_ (w : World) (base lo : Nat) : MadeB w base lo (.slice none 0 0) [] := ⟨none, 0, [], rfl, World.ownsRow_nil _ _ _ _, RulesV.nil⟩
set_option maxRecDepth 10000 in
set_option maxHeartbeats 2000000 in
theorem walk_counts (n m a : Int) (w : World) (hn : 0 ≤ n ∧ n < 256) (hm : -128 ≤ m ∧ m ≤ 127) (ha : 0 ≤ a ∧ a < 256) (hL : Laid w) :
    Calls Tryd.prog 7 #[.int .u8 n, .int .i8 m, .int .u8 a] w fun e w' => e = .returned (.bool true) ∧ Below w.heap.size w w' := by
  have HL := Lib.hid hL
  clear hL
  go_enter Tryd.func7, Tryd.ntmps7
  go_wp2_with fail
  refine (sanity_any _ HL.out).mono ?_
  rintro e w1 ⟨rfl, hb⟩
  obtain ⟨g, hg⟩ : ∃ g, w.heap.size = g := ⟨_, rfl⟩
  obtain ⟨q, hq⟩ : ∃ q, w1.heap.size = q := ⟨_, rfl⟩
  have hgq : g ≤ q := by rw [← hg, ← hq]; exact hb.size
  have HB := Lib.hid hb
  rw [hg] at HB
  clear hb HL
  obtain ⟨c, hc, hc67⟩ : ∃ c : Nat, n % 67 = (c : Int) ∧ c < 67 := ⟨(n % 67).toNat, by omega, by omega⟩
  have XQ : Hid (Blk (w1.alloc (.cells #[.int .i64 m, .int .u8 a, .slice none 0 0] 33)) q 33 #[.int .i64 m, .int .u8 a, .slice none 0 0]) := by unfold Hid; rw [← hq]; exact Blk.new _ _ _
  have XB : Hid (Below g w (w1.alloc (.cells #[.int .i64 m, .int .u8 a, .slice none 0 0] 33))) := HB.out.alloc (by omega) _
  go_wp2_with fail
  go_loopg [9, 10] c (fun gk s9 _ wx => ∃ (j : Nat) (v : Value), j ≤ c ∧ gk = c - j ∧ s9 = .int .i64 j ∧ Blk wx q 33 #[.int .i64 m, .int .u8 a, v] ∧ MadeB wx (q + 1) (q + 1) v (cntRs j) ∧ Below g w wx)
  case atStart => exact ⟨0, _, by omega, by omega, rfl, XQ.out, MadeB.none_ _ _ _, XB.out⟩
  case round =>
    obtain ⟨j, v, hj, rfl, rfl, hQ, hM, hB⟩ := hrel
    obtain ⟨A0, k0, rfl, _, _⟩ := hM.rules
    have q0 := hQ.cell 0
    have q1 := hQ.cell 1
    have q2 := hQ.cell 2
    have qf2 := hQ.free 2
    simp only [List.getElem?_toArray, List.getElem?_cons_zero, List.getElem?_cons_succ] at q0 q1 q2
    have HQ1 := Lib.hid hQ
    have HM1 := Lib.hid hM
    have HB1 := Lib.hid hB
    have hqlt : q < wr.heap.size := Blk.lt hQ
    clear XQ XB HB hQ hM hB
    by_cases hlt : j < c
    · have hlt' : (j : Int) < (c : Int) := by omega
      obtain ⟨r, hr, hr62, hrj⟩ : ∃ r : Nat, (j : Int) % 62 = (r : Int) ∧ r < 62 ∧ r = j % 62 := ⟨j % 62, by omega, by omega, rfl⟩
      have HRJ := Lib.hid hrj
      clear hrj
      have hcv := conv_row (wr.alloc (.cells #[.int .u8 (33 + (j : Int))] 5)) wr.heap.size 1 1 (fun _ => 33 + (j : Int)) 5 (Blk.new _ _ _)
      have hs1 : (wr.alloc (.cells #[.int .u8 (33 + (j : Int))] 5)).heap.size = wr.heap.size + 1 := by simp
      have hcr : cntR j = ⟨strOf [33 + (j : Int)], [1 + (r : Int)], 63, 63, 0, 0⟩ := by
        unfold cntR
        rw [show ((33 + j : Nat) : Int) = 33 + (j : Int) by omega, show ((1 + j % 62 : Nat) : Int) = 1 + (r : Int) by have := HRJ.out; omega]
      have HCR := Lib.hid hcr
      have hsq : SeqT ((wr.alloc (.cells #[.int .u8 (33 + (j : Int))] 5)).alloc (.cells #[.int .u8 (1 + (r : Int))] 50)) (q + 1) (some ⟨wr.heap.size + 1, 0, none⟩) [1 + (r : Int)] := by
        obtain ⟨A', k', e', hS⟩ := IsCells.new (wr.alloc (.cells #[.int .u8 (33 + (j : Int))] 5)) (1 + (r : Int))
        injection e' with e1 e2 e3
        subst e1
        rw [hs1] at hS
        exact hS.less (by omega)
      have hnew : Hid (NewR (q + 1) [cntR j] (.slice (some ⟨((wr.alloc (.cells #[.int .u8 (33 + (j : Int))] 5)).alloc (.cells #[.int .u8 (1 + (r : Int))] 50)).heap.size, 0, none⟩) 1 1) (((wr.alloc (.cells #[.int .u8 (33 + (j : Int))] 5)).alloc (.cells #[.int .u8 (1 + (r : Int))] 50)).alloc (.cells #[.string (strOf [33 + (j : Int)]), .slice (some ⟨wr.heap.size + 1, 0, none⟩) 1 1, .int .u8 63, .int .u8 63, .int .i64 0, .int .i64 0] 36))) := by
        unfold Hid; rw [hcr]
        have hf := cnt_fits j (by omega)
        rw [hcr] at hf
        exact NewR.lit (RulesV.nil.snoc (k := 1) (x := ⟨strOf [33 + (j : Int)], [1 + (r : Int)], 63, 63, 0, 0⟩) hsq hf)
      have hs2 : ((wr.alloc (.cells #[.int .u8 (33 + (j : Int))] 5)).alloc (.cells #[.int .u8 (1 + (r : Int))] 50)).heap.size = wr.heap.size + 1 + 1 := by simp
      have hs3 : Hid (q + 1 ≤ (((wr.alloc (.cells #[.int .u8 (33 + (j : Int))] 5)).alloc (.cells #[.int .u8 (1 + (r : Int))] 50)).alloc (.cells #[.string (strOf [33 + (j : Int)]), .slice (some ⟨wr.heap.size + 1, 0, none⟩) 1 1, .int .u8 63, .int .u8 63, .int .i64 0, .int .i64 0] 36)).heap.size) := by
        have h3 : (((wr.alloc (.cells #[.int .u8 (33 + (j : Int))] 5)).alloc (.cells #[.int .u8 (1 + (r : Int))] 50)).alloc (.cells #[.string (strOf [33 + (j : Int)]), .slice (some ⟨wr.heap.size + 1, 0, none⟩) 1 1, .int .u8 63, .int .u8 63, .int .i64 0, .int .i64 0] 36)).heap.size = wr.heap.size + 1 + 1 + 1 := by simp
        unfold Hid; omega
      rw [hs2] at hnew
      have hm3 : Hid (MadeB (((wr.alloc (.cells #[.int .u8 (33 + (j : Int))] 5)).alloc (.cells #[.int .u8 (1 + (r : Int))] 50)).alloc (.cells #[.string (strOf [33 + (j : Int)]), .slice (some ⟨wr.heap.size + 1, 0, none⟩) 1 1, .int .u8 63, .int .u8 63, .int .i64 0, .int .i64 0] 36)) (q + 1) (q + 1) (.slice A0 (cntRs j).length k0) (cntRs j)) := ((HM1.out.keep (below_box _ _ _)).keep (below_box _ _ _)).keep (below_box _ _ _)
      have hQ3 : Hid (Blk (((wr.alloc (.cells #[.int .u8 (33 + (j : Int))] 5)).alloc (.cells #[.int .u8 (1 + (r : Int))] 50)).alloc (.cells #[.string (strOf [33 + (j : Int)]), .slice (some ⟨wr.heap.size + 1, 0, none⟩) 1 1, .int .u8 63, .int .u8 63, .int .i64 0, .int .i64 0] 36)) q 33 #[.int .i64 m, .int .u8 a, .slice A0 (cntRs j).length k0]) := HQ1.out.box.box.box
      have hB3 : Hid (Below g w (((wr.alloc (.cells #[.int .u8 (33 + (j : Int))] 5)).alloc (.cells #[.int .u8 (1 + (r : Int))] 50)).alloc (.cells #[.string (strOf [33 + (j : Int)]), .slice (some ⟨wr.heap.size + 1, 0, none⟩) 1 1, .int .u8 63, .int .u8 63, .int .i64 0, .int .i64 0] 36))) := ((HB1.out.alloc (by omega) _).alloc (by omega) _).alloc (by omega) _
      clear hsq hcr hs1 hs2
      go_wp2_with (at_builtin; refine wpList_append_made rfl _ _ rfl (q + 1) (q + 1) _ _ (cntRs j) [cntR j] rfl hm3.out rfl hnew.out ?c1 (by show 0 < 1; omega) hs3.out ?_)
      case c1 => rw [cnt_len]; show j + 1 ≤ 1000; omega
      intro v' w5 hM5 hO5
      obtain ⟨A5, k5, rfl, _, _⟩ := hM5.rules
      have hQ5 := hO5.low hQ3.out (by omega)
      have hB5 : Below g w w5 := hB3.out.trans ((hO5.below hs3.out).mono (by omega))
      have c9 := hQ5.cell 2
      have f9 := hQ5.free 2
      simp only [List.getElem?_toArray, List.getElem?_cons_zero, List.getElem?_cons_succ] at c9
      have Q5 := Lib.hid hQ5
      have B5 := Lib.hid hB5
      have M5 := Lib.hid hM5
      clear hQ5 hB5 hM5 hO5 hnew hm3 hQ3 hB3
      go_wp2_with fail
      go_roundg (c - (j + 1))
      case measure => omega
      case rel =>
        refine ⟨j + 1, _, by omega, rfl, by go_num, Q5.out.set 2 _, ?_, B5.out.setCell (by show g ≤ q; omega) _⟩
        rw [cnt_succ]
        have h5 := M5.out
        simp only [List.length_append, List.length_cons, List.length_nil, Nat.zero_add] at h5
        exact h5.set Q5.out (by decide) _
    · obtain rfl : j = c := by omega
      have hlt' : ¬ (j : Int) < (j : Int) := by omega
      obtain ⟨hn4, hR4, hk4⟩ := HM1.out.ruC
      have HR4 := Lib.hid hR4
      clear hR4 hn4
      have hln := cnt_len j
      rw [hln] at q2 hk4
      have hmax : j < 2 ^ 40 := by omega
      have HLN := Lib.hid hln
      clear hln HQ1 HM1
      obtain ⟨P, hP⟩ : ∃ P : Int, IntKind.i64.wrap (2 ^ m.toNat) = P := ⟨_, rfl⟩
      by_cases h1 : 1 ≤ m
      · by_cases h2 : m ≤ 8
        · by_cases h3 : 0 < a
          · by_cases h4 : (1 : Int) ≤ (j : Int)
            · by_cases h5 : (j : Int) ≤ 64
              · have hmx : max m 0 = m := by omega
                have hmn : min m 8 = m := by omega
                have hPm := pow_wrap m h1 h2
                rw [hPm] at hP
                have hw64 : wrap64 P = P := by rw [← hP, ← IntWalk.i64_left]; exact hPm
                have hml : m ≤ 64 := by omega
                have hm0 : 0 ≤ m := by omega
                by_cases h6 : a < P
                · have hv : numsB m a j = true := by
                    unfold numsB
                    simp only [Bool.and_eq_true, decide_eq_true_eq]
                    exact ⟨⟨⟨⟨⟨h1, h2⟩, by omega⟩, by omega⟩, h4⟩, h5⟩
                  have hck := Lib.hid (cnt_good hc67 hv)
                  clear hv
                  go_wp2_with fail
                  refine (check_lit A0 j k0 m a 0 0 (cntRs j) hck.out _ HLN.out HR4.out hmax hk4 ha).mono ?_
                  rintro e w5 ⟨rfl, hb5⟩
                  have B5 := Lib.hid (HB1.out.trans (hb5.mono (by omega)))
                  clear hb5
                  go_wp2
                  go_ret
                  exact ⟨rfl, by rw [hg]; exact B5.out⟩
                · have hv : numsB m a j = false := by
                    cases hv : numsB m a j with
                    | false => rfl
                    | true =>
                      unfold numsB at hv
                      simp only [Bool.and_eq_true, decide_eq_true_eq] at hv
                      omega
                  have hck := Lib.hid (cnt_bad hv)
                  clear hv
                  go_wp2_with fail
                  refine (check_lit A0 j k0 m a (-1) 1 (cntRs j) hck.out _ HLN.out HR4.out hmax hk4 ha).mono ?_
                  rintro e w5 ⟨rfl, hb5⟩
                  have B5 := Lib.hid (HB1.out.trans (hb5.mono (by omega)))
                  clear hb5
                  go_wp2
                  go_ret
                  exact ⟨rfl, by rw [hg]; exact B5.out⟩
              · have hv : numsB m a j = false := by
                  cases hv : numsB m a j with
                  | false => rfl
                  | true =>
                    unfold numsB at hv
                    simp only [Bool.and_eq_true, decide_eq_true_eq] at hv
                    omega
                have hck := Lib.hid (cnt_bad hv)
                clear hv
                go_wp2_with fail
                refine (check_lit A0 j k0 m a (-1) 1 (cntRs j) hck.out _ HLN.out HR4.out hmax hk4 ha).mono ?_
                rintro e w5 ⟨rfl, hb5⟩
                have B5 := Lib.hid (HB1.out.trans (hb5.mono (by omega)))
                clear hb5
                go_wp2
                go_ret
                exact ⟨rfl, by rw [hg]; exact B5.out⟩
            · have hv : numsB m a j = false := by
                cases hv : numsB m a j with
                | false => rfl
                | true =>
                  unfold numsB at hv
                  simp only [Bool.and_eq_true, decide_eq_true_eq] at hv
                  omega
              have hck := Lib.hid (cnt_bad hv)
              clear hv
              go_wp2_with fail
              refine (check_lit A0 j k0 m a (-1) 1 (cntRs j) hck.out _ HLN.out HR4.out hmax hk4 ha).mono ?_
              rintro e w5 ⟨rfl, hb5⟩
              have B5 := Lib.hid (HB1.out.trans (hb5.mono (by omega)))
              clear hb5
              go_wp2
              go_ret
              exact ⟨rfl, by rw [hg]; exact B5.out⟩
          · have hv : numsB m a j = false := by
              cases hv : numsB m a j with
              | false => rfl
              | true =>
                unfold numsB at hv
                simp only [Bool.and_eq_true, decide_eq_true_eq] at hv
                omega
            have hck := Lib.hid (cnt_bad hv)
            clear hv
            go_wp2_with fail
            refine (check_lit A0 j k0 m a (-1) 1 (cntRs j) hck.out _ HLN.out HR4.out hmax hk4 ha).mono ?_
            rintro e w5 ⟨rfl, hb5⟩
            have B5 := Lib.hid (HB1.out.trans (hb5.mono (by omega)))
            clear hb5
            go_wp2
            go_ret
            exact ⟨rfl, by rw [hg]; exact B5.out⟩
        · have hv : numsB m a j = false := by
            cases hv : numsB m a j with
            | false => rfl
            | true =>
              unfold numsB at hv
              simp only [Bool.and_eq_true, decide_eq_true_eq] at hv
              omega
          have hck := Lib.hid (cnt_bad hv)
          clear hv
          go_wp2_with fail
          refine (check_lit A0 j k0 m a (-1) 1 (cntRs j) hck.out _ HLN.out HR4.out hmax hk4 ha).mono ?_
          rintro e w5 ⟨rfl, hb5⟩
          have B5 := Lib.hid (HB1.out.trans (hb5.mono (by omega)))
          clear hb5
          go_wp2
          go_ret
          exact ⟨rfl, by rw [hg]; exact B5.out⟩
      · have hv : numsB m a j = false := by
          cases hv : numsB m a j with
          | false => rfl
          | true =>
            unfold numsB at hv
            simp only [Bool.and_eq_true, decide_eq_true_eq] at hv
            omega
        have hck := Lib.hid (cnt_bad hv)
        clear hv
        go_wp2_with fail
        refine (check_lit A0 j k0 m a (-1) 1 (cntRs j) hck.out _ HLN.out HR4.out hmax hk4 ha).mono ?_
        rintro e w5 ⟨rfl, hb5⟩
        have B5 := Lib.hid (HB1.out.trans (hb5.mono (by omega)))
        clear hb5
        go_wp2
        go_ret
        exact ⟨rfl, by rw [hg]; exact B5.out⟩
set_option maxRecDepth 100000 in
theorem lifted (os : Os) (started : os.Started) (H : Type) (enc : TypeId × Value → H) :
    ReturnsInHanded {} Tryd.checked os 7 .any (fun w args => (Rows.tableCountsSpec.pre enc Tryd.prog Tryd.f7 [] false w args ∧ laidMetH Tryd.prog laidL w) ∧ sizedMet enc Tryd.prog Tryd.f7 (OpenSpec.ofChange Rows.tableCountsSpec) false w args)
      (Rows.tableCountsSpec.post enc Tryd.prog Tryd.f7 false true false false) := by
  refine returnsInHanded_of_change_and (C := Tryd.checked) (X := fun w _ => laidMetH Tryd.prog laidL w) (fun _ _ _ hh h => h.of_heap hh) own started (by kernel_rfl) Tryd.func7
    (ChangeSpec.witness_shaped (enc := enc) (C := Tryd.checked) (os := os) (X := fun w _ => laidMetH Tryd.prog laidL w) false (World.doorLaid Tryd.prog 400 os) #[.int .u8 0, .int .i8 0, .int .u8 0] 8 rfl (World.shaped_of_RefB (by kernel_rfl) (by kernel_rfl)) (by kernel_rfl) (by kernel_rfl) (by kernel_rfl) (door_met os _)) ?_
  intro W base args ds gs before hval0 hW hcnd hsz0 hL _
  have hval : ∀ (j : Nat) t v, Tryd.f7.params[j]? = some t → args[j]? = some v → Value.okWide Tryd.prog W .any base t v := hval0
  have hW' := hW
  obtain ⟨p, q, hA0, hV, rfl, hfz, hnd⟩ := hW
  have hA : DataW.TrodAll enc Tryd.prog W 0 (fun _ => true) true Tryd.f7.params.toList args.toList ds p := hA0
  rw [Tryd.params7] at hA hval
  obtain ⟨v0, vs0, d0, ds0, p0, q0, hargs, rfl, rfl, h0, r0⟩ := trodAll_cons hA
  obtain ⟨v1, vs1, d1, ds1, p1, q1, rfl, rfl, rfl, h1, r1⟩ := trodAll_cons r0
  obtain ⟨v2, vs2, d2, ds2, p2, q2, rfl, rfl, rfl, h2, r2⟩ := trodAll_cons r1
  obtain ⟨rfl, rfl, rfl⟩ := trodAll_nil r2
  obtain rfl : args = #[v0, v1, v2] := by cases args; simp_all
  obtain ⟨rfl, rfl⟩ := trodVars_none hV
  have k0 := h0
  have lt0 : ∀ x ∈ p0, x.block < W.heap.size := by obtain ⟨m, hm⟩ := k0; exact DataW.trod_lt m _ _ _ hm
  have k1 := h1
  have lt1 : ∀ x ∈ p1, x.block < W.heap.size := by obtain ⟨m, hm⟩ := k1; exact DataW.trod_lt m _ _ _ hm
  have k2 := h2
  have lt2 : ∀ x ∈ p2, x.block < W.heap.size := by obtain ⟨m, hm⟩ := k2; exact DataW.trod_lt m _ _ _ hm
  obtain ⟨a0, rfl, _, _, w0⟩ := open_int Tryd.underlying5 (hval 0 5 v0 rfl rfl) h0
  obtain ⟨a1, rfl, _, _, w1⟩ := open_int Tryd.underlying42 (hval 1 42 v1 rfl rfl) h1
  obtain ⟨a2, rfl, _, _, w2⟩ := open_int Tryd.underlying5 (hval 2 5 v2 rfl rfl) h2
  clear hA0 hval0
  refine (walk_counts a0 a1 a2 W ⟨(bounds_u8 w0).1, by have := (bounds_u8 w0).2; omega⟩ (bounds_i8 w1) ⟨(bounds_u8 w2).1, by have := (bounds_u8 w2).2; omega⟩ (of_laid hL)).mono fun e W' ⟨he, bel⟩ => ?_
  subst he
  exact ⟨_, rfl, _, _, _, [], _, [], hW', trodAll_mk1 (shut_bool Tryd.underlying4 _), (trodAll_cons_mk (Below.trod laidOut (by kernel_rfl) (of_decide_eq_true (by kernel_rfl)) k0 bel lt0) (trodAll_cons_mk (Below.trod laidOut (by kernel_rfl) (of_decide_eq_true (by kernel_rfl)) k1 bel lt1) (trodAll_cons_mk (Below.trod laidOut (by kernel_rfl) (of_decide_eq_true (by kernel_rfl)) k2 bel lt2) trodAll_mk0))), rfl, bel.frame _, fun h => by cases h⟩

theorem over : Rows.TableCountsSaid :=
  OpenClaim.holds_of_wide 7 Tryd.f7 rfl rfl rfl rfl rfl rfl rfl ⟨rfl, rfl, rfl, rfl, rfl⟩ rfl rfl rfl rfl rfl (by kernel_rfl) Tryd.func7 (by kernel_rfl)
    (of_decide_eq_true (by kernel_rfl)) (by unfold Func.isWrapper; first | (rw [if_pos (by decide +kernel)]; kernel_rfl) | (rw [if_neg (by decide +kernel)]; exact ⟨rfl, rfl⟩))
    (fun os started H enc _ => lifted os started H enc)

theorem proved : Rows.TableCountsCardSaid :=
  Claim7.holds_tied_plain_at .later [] [.data, .data, .data, .sentinel, .sentinel] true (true, "c18c62adea010eee9444321e409370a16f387a51dafbd9167593a52b4de1fdf2") true
    over (fun _ h => by cases h) (by kernel_rfl) (fun _ h => by cases h) tableCounts_row_tie rfl ⟨rfl, rfl⟩ (by kernel_rfl) rfl
    (fun f fn hf hfn => by
      obtain rfl : f = 7 := Option.some.inj ((show Tryd.prog.funcNamed "sixdot/sixdotlaw02.TableCounts" = some 7 by kernel_rfl).symm.trans hf) |>.symm
      obtain rfl : fn = Tryd.f7 := (Option.some.inj (Tryd.func7.symm.trans hfn)).symm
      exact ⟨by kernel_rfl, fun j t ht => by
        rw [Tryd.params7] at ht
        have hm : t ∈ [5, 42, 5] := by have := Array.mem_of_getElem? ht; simpa using this
        have hall : ([5, 42, 5].all fun u => !Tryd.prog.wantsStandIn u) = true := by kernel_rfl
        exact (show Tryd.prog.wantsStandIn t = false by simpa using List.all_eq_true.1 hall t hm)⟩)
    (by kernel_rfl)

end Go.Proofs.YtjcknfaopmpocaaDoor
