/- P2.1: for all tables, Check and Valid agree with the reference: TableChecks returns true for every table. No condition, but what the row's own premises say of the arguments and of the library's variables. -/
import Derived.Test.YtjcknfaopmpocaaDoorFrameT
import Derived.Test.YtjcknfaopmpocaaDoorOpenT
namespace Go.Proofs.YtjcknfaopmpocaaDoor
open Go.ChangeShapes Go.WideShapes Go.ChangeAt Go.WideMaps Go.WideElems Go.RowKit

/-- The first j rules are small. -/
def SmallTo (rs : List Rule) (j : Nat) : Prop := ∀ (i : Nat) (x : Rule), i < j → rs[i]? = some x → x.p.size ≤ 6 ∧ x.c.length ≤ 6
theorem SmallTo.step {rs : List Rule} {j : Nat} {y : Rule} (h : SmallTo rs j) (hy : rs[j]? = some y) (h1 : y.p.size ≤ 6) (h2 : y.c.length ≤ 6) : SmallTo rs (j + 1) := by
  intro i x hi hx
  rcases Nat.lt_or_ge i j with g | g
  · exact h i x g hx
  · obtain rfl : i = j := by omega
    rw [hy] at hx; injection hx with hx; subst hx; exact ⟨h1, h2⟩

set_option maxRecDepth 10000 in
set_option maxHeartbeats 1000000 in
theorem walk_checks (A : Option Addr) (n k : Nat) (m a : Int) (rs : List Rule) (w : World) (hn : rs.length = n) (hx : Raws w w.heap.size A rs) (hcap : n ≤ k) (ha : 0 ≤ a ∧ a < 256) (hL : Laid w) :
    Calls Tryd.prog 5 #[.agg #[.int .i64 m, .int .u8 a, .slice A n k]] w fun e w' => e = .returned (.bool true) ∧ Below w.heap.size w w' := by
  have hbx : Hid (Below w.heap.size w (w.alloc (.cells #[.int .i64 m, .int .u8 a, .slice A n k] 33))) := below_box _ _ _
  have P0 : Hid (Blk (w.alloc (.cells #[.int .i64 m, .int .u8 a, .slice A n k] 33)) w.heap.size 33 #[.int .i64 m, .int .u8 a, .slice A n k]) := Blk.new _ _ _
  have R0 := Lib.hid (hx.up hbx.out)
  have L0 := Lib.hid (hL.keep hbx.out)
  have HN := Lib.hid hn
  clear hL hx hn
  go_enter Tryd.func5, Tryd.ntmps5
  go_wp2_with fail
  obtain ⟨g, hg⟩ : ∃ g, w.heap.size = g := ⟨_, rfl⟩
  rw [hg] at P0 hbx ⊢
  generalize w.alloc (.cells #[.int .i64 m, .int .u8 a, .slice A n k] 33) = V at *
  refine (sanity_any _ L0.out).mono ?_
  rintro e w1 ⟨rfl, hb⟩
  have P1 := Lib.hid (P0.out.keep hb (Blk.lt P0.out))
  have R1 := Lib.hid (R0.out.up hb)
  have HB : Hid (Below g w w1) := hbx.out.trans (hb.mono (by have := hbx.out.size; omega))
  clear hb P0 R0 L0 hbx
  have c0 := P1.out.cell 0
  have c1 := P1.out.cell 1
  have c2 := P1.out.cell 2
  simp only [List.getElem?_toArray, List.getElem?_cons_zero, List.getElem?_cons_succ] at c0 c1 c2
  by_cases h6 : n ≤ 6
  · have h6' : (n : Int) ≤ 6 := by omega
    go_wp2_with fail
    have hmax : n < 2 ^ 40 := by omega
    go_loop [4] (fun i => ∃ j : Nat, j ≤ n ∧ i = .int .i64 j ∧ SmallTo rs j) (fun i => n - (intOf i).toNat)
    case atStart => exact ⟨0, by omega, rfl, fun i x h => absurd h (by omega)⟩
    case round =>
      obtain ⟨j, hj, rfl, hsm⟩ := hrel
      have HSM := Lib.hid hsm
      clear hsm
      by_cases hlt : j < n
      · obtain ⟨b, o, rfl, hbB, hc⟩ := R1.out (by rw [HN.out]; omega)
        obtain ⟨A', k', d0, d1, _, _, _, _, _, _⟩ := hc j (by rw [HN.out]; exact hlt)
        have HJ : Hid (rs[j]? = some (rs[j]'(by rw [HN.out]; exact hlt))) := List.getElem?_eq_getElem _
        obtain ⟨pr, hpr⟩ : ∃ pr, (rs[j]'(by rw [HN.out]; exact hlt)).p = pr := ⟨_, rfl⟩
        obtain ⟨ce, hce⟩ : ∃ ce, (rs[j]'(by rw [HN.out]; exact hlt)).c = ce := ⟨_, rfl⟩
        rw [hpr] at d0
        rw [hce] at d1
        have HP := Lib.hid hpr
        have HC := Lib.hid hce
        clear hc hpr hce
        by_cases hp : pr.size ≤ 6
        · have hp' : (pr.size : Int) ≤ 6 := by omega
          by_cases hc6 : ce.length ≤ 6
          · have hc' : (ce.length : Int) ≤ 6 := by omega
            go_wp2
            refine ⟨⟨j + 1, by omega, by go_num, HSM.out.step HJ.out (by rw [HP.out]; exact hp) (by rw [HC.out]; exact hc6)⟩, by simp [intOf]; omega⟩
          · have hc' : ¬ (ce.length : Int) ≤ 6 := by omega
            go_wp2
            go_ret
            exact ⟨rfl, by first | exact HB.out | (rw [hg]; exact HB.out)⟩
        · have hp' : ¬ (pr.size : Int) ≤ 6 := by omega
          go_wp2
          go_ret
          exact ⟨rfl, by first | exact HB.out | (rw [hg]; exact HB.out)⟩
      · have : j = n := by omega
        subst this
        have R1 := Lib.hid (R1.out.rules (by rw [HN.out]; exact HSM.out))
        obtain ⟨i0, hi0⟩ : ∃ i, chkI m a rs = i := ⟨_, rfl⟩
        obtain ⟨e0, he0⟩ : ∃ i, chkE m a rs = i := ⟨_, rfl⟩
        have HI := Lib.hid hi0
        have HE := Lib.hid he0
        clear hi0 he0
        go_wp2_with fail
        refine (check_lit _ _ _ m a i0 e0 rs ⟨HI.out, HE.out⟩ _ HN.out R1.out hmax hcap ha).mono ?_
        rintro e w2 ⟨rfl, hb⟩
        have P2 := Lib.hid (P1.out.keep hb (Blk.lt P1.out))
        have R2 := Lib.hid (R1.out.up hb)
        have HB2 : Hid (Below g w w2) := HB.out.trans (hb.mono (by have := HB.out.size; omega))
        clear hb P1 R1 HB c0 c1 c2
        have c0 := P2.out.cell 0
        have c1 := P2.out.cell 1
        have c2 := P2.out.cell 2
        simp only [List.getElem?_toArray, List.getElem?_cons_zero, List.getElem?_cons_succ] at c0 c1 c2
        go_wp2_with fail
        refine (rCheck_any _ _ _ m a rs _ HN.out R2.out hmax ha).mono ?_
        rintro e w3 ⟨rfl, hb⟩
        rw [HI.out, HE.out]
        have P3 := Lib.hid (P2.out.keep hb (Blk.lt P2.out))
        have R3 := Lib.hid (R2.out.up hb)
        have HB3 : Hid (Below g w w3) := HB2.out.trans (hb.mono (by have := HB2.out.size; omega))
        clear hb P2 R2 HB2 c0 c1 c2
        have c0 := P3.out.cell 0
        have c1 := P3.out.cell 1
        have c2 := P3.out.cell 2
        simp only [List.getElem?_toArray, List.getElem?_cons_zero, List.getElem?_cons_succ] at c0 c1 c2
        by_cases he : e0 = 0
        · subst he
          go_wp2_with fail
          refine (valid_lit _ _ _ m a true rs (by unfold validB; rw [HE.out]; rfl) _ HN.out R3.out hmax hcap ha).mono ?_
          rintro e w4 ⟨rfl, hb⟩
          have HB4 : Hid (Below g w w4) := HB3.out.trans (hb.mono (by have := HB3.out.size; omega))
          clear hb
          go_wp2
          go_ret
          exact ⟨rfl, by first | exact HB4.out | (rw [hg]; exact HB4.out)⟩
        · have he2 : (e0 == 0) = false := beq_eq_false_iff_ne.2 he
          go_wp2_with fail
          refine (valid_lit _ _ _ m a false rs (by unfold validB; rw [HE.out]; exact he2) _ HN.out R3.out hmax hcap ha).mono ?_
          rintro e w4 ⟨rfl, hb⟩
          have HB4 : Hid (Below g w w4) := HB3.out.trans (hb.mono (by have := HB3.out.size; omega))
          clear hb
          go_wp2
          go_ret
          exact ⟨rfl, by first | exact HB4.out | (rw [hg]; exact HB4.out)⟩
  · have h6' : ¬ (n : Int) ≤ 6 := by omega
    go_wp2
    go_ret
    exact ⟨rfl, by first | exact HB.out | (rw [hg]; exact HB.out)⟩
set_option maxRecDepth 100000 in
theorem lifted (os : Os) (started : os.Started) (H : Type) (enc : TypeId × Value → H) :
    ReturnsInHanded {} Tryd.checked os 5 .any (fun w args => (Rows.tableChecksSpec.pre enc Tryd.prog Tryd.f5 [] false w args ∧ laidMetH Tryd.prog laidL w) ∧ sizedMet enc Tryd.prog Tryd.f5 (OpenSpec.ofChange Rows.tableChecksSpec) false w args)
      (Rows.tableChecksSpec.post enc Tryd.prog Tryd.f5 false true false false) := by
  refine returnsInHanded_of_change_and (C := Tryd.checked) (X := fun w _ => laidMetH Tryd.prog laidL w) (fun _ _ _ hh h => h.of_heap hh) own started (by kernel_rfl) Tryd.func5
    (ChangeSpec.witness_shaped (enc := enc) (C := Tryd.checked) (os := os) (X := fun w _ => laidMetH Tryd.prog laidL w) false (World.doorLaid Tryd.prog 400 os) #[.agg #[.int .i64 0, .int .u8 0, .slice none 0 0]] 8 rfl (World.shaped_of_RefB (by kernel_rfl) (by kernel_rfl)) (by kernel_rfl) (by kernel_rfl) (by kernel_rfl) (door_met os _)) ?_
  intro W base args ds gs before hval0 hW hcnd hsz0 hL _
  have hval : ∀ (j : Nat) t v, Tryd.f5.params[j]? = some t → args[j]? = some v → Value.okWide Tryd.prog W .any base t v := hval0
  have hW' := hW
  obtain ⟨p, q, hA0, hV, rfl, hfz, hnd⟩ := hW
  have hA : DataW.TrodAll enc Tryd.prog W 0 (fun _ => true) true Tryd.f5.params.toList args.toList ds p := hA0
  rw [Tryd.params5] at hA hval
  obtain ⟨v0, vs0, d0, ds0, p0, q0, hargs, rfl, rfl, h0, r0⟩ := trodAll_cons hA
  obtain ⟨rfl, rfl, rfl⟩ := trodAll_nil r0
  obtain rfl : args = #[v0] := by cases args; simp_all
  obtain ⟨rfl, rfl⟩ := trodVars_none hV
  have k0 := h0
  have lt0 : ∀ x ∈ p0, x.block < W.heap.size := by obtain ⟨m, hm⟩ := k0; exact DataW.trod_lt m _ _ _ hm
  obtain ⟨a0, a1, a2, a3, a4, rfl, x0, x1, _, x3⟩ := open_table (hval 0 33 v0 rfl rfl) h0
  clear hA0 hval0
  refine (walk_checks a2 a4.length a3 a0 a1 a4 W rfl x0 x1 x3 (of_laid hL)).mono fun e W' ⟨he, bel⟩ => ?_
  subst he
  exact ⟨_, rfl, _, _, _, [], _, [], hW', trodAll_mk1 (shut_bool Tryd.underlying4 _), (trodAll_cons_mk (Below.trod laidOut (by kernel_rfl) (of_decide_eq_true (by kernel_rfl)) k0 bel lt0) trodAll_mk0), rfl, bel.frame _, fun h => by cases h⟩

theorem over : Rows.TableChecksSaid :=
  OpenClaim.holds_of_wide 5 Tryd.f5 rfl rfl rfl rfl rfl rfl rfl ⟨rfl, rfl, rfl, rfl, rfl⟩ rfl rfl rfl rfl rfl (by kernel_rfl) Tryd.func5 (by kernel_rfl)
    (of_decide_eq_true (by kernel_rfl)) (by unfold Func.isWrapper; first | (rw [if_pos (by decide +kernel)]; kernel_rfl) | (rw [if_neg (by decide +kernel)]; exact ⟨rfl, rfl⟩))
    (fun os started H enc _ => lifted os started H enc)

theorem proved : Rows.TableChecksCardSaid :=
  Claim7.holds_tied_plain_at .later [] [.data, .data, .data, .sentinel, .sentinel] true (true, "c18c62adea010eee9444321e409370a16f387a51dafbd9167593a52b4de1fdf2") true
    over (fun _ h => by cases h) (by kernel_rfl) (fun _ h => by cases h) tableChecks_row_tie rfl ⟨rfl, rfl⟩ (by kernel_rfl) rfl
    (fun f fn hf hfn => by
      obtain rfl : f = 5 := Option.some.inj ((show Tryd.prog.funcNamed "sixdot/sixdotlaw02.TableChecks" = some 5 by kernel_rfl).symm.trans hf) |>.symm
      obtain rfl : fn = Tryd.f5 := (Option.some.inj (Tryd.func5.symm.trans hfn)).symm
      exact ⟨by kernel_rfl, fun j t ht => by
        rw [Tryd.params5] at ht
        have hm : t ∈ [33] := by have := Array.mem_of_getElem? ht; simpa using this
        have hall : ([33].all fun u => !Tryd.prog.wantsStandIn u) = true := by kernel_rfl
        exact (show Tryd.prog.wantsStandIn t = false by simpa using List.all_eq_true.1 hall t hm)⟩)
    (by kernel_rfl)

end Go.Proofs.YtjcknfaopmpocaaDoor
