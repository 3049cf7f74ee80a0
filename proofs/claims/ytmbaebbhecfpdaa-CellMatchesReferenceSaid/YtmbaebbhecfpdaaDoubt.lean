/- P1.4: for all bytes: a cell fits what was felt exactly if its cost is 0, as many cells fit as the doubtful dots have subsets, and the cost is at most the distance from Up, by at most the number of doubtful dots less. No condition. -/
import Derived.Test.YtmbaebbhecfpdaaF
import Derived.Test.YtmbaebbhecfpdaaFits
import Derived.Test.YtmbaebbhecfpdaaFrame
namespace Go.Proofs.Ytmbaebbhecfpdaa
open Go.RowKit
theorem felt_any (x y : Int) (h0 : 0 ≤ x) (h1 : x < 256) (h2 : 0 ≤ y) (h3 : y < 256) (w : World) :
    Calls Try.prog 16 #[.int .u8 x, .int .u8 y] w fun e w' => e = .returned (.agg #[.int .u8 (x % 64), .int .u8 (y % 64)]) ∧ Below w.heap.size w w' := by
  go_enter Try.func16, Try.ntmps16
  go_wp2
  refine bodyPost_ret (v := .agg #[.int .u8 (x % 64), .int .u8 (y % 64)]) (by simp [results, Try.results16, go_sem]) rfl ⟨rfl, ?_⟩
  exact (Below.refl _ _).alloc (Nat.le_refl _) _
end Go.Proofs.Ytmbaebbhecfpdaa
namespace Go.Proofs.Ytmbaebbhecfpdaa.cellDoubt
open Go.ChangeShapes Go.WideShapes Go.ChangeAt Go.RowKit
set_option linter.unusedVariables false

set_option maxRecDepth 100000 in
set_option maxHeartbeats 1000000 in
theorem walk (a0 : List Int) (l0 : a0.length = 2) (w0 : ∀ z ∈ a0, (Lit.int .u8 z).wf = true) (w : World) :
    Calls Try.prog 7 #[.agg (a0.map (Value.int .u8)).toArray] w fun e w' => e = .returned (.bool true) ∧ Below w.heap.size w w' := by
  match a0, l0, w0 with
  | [x, y], _, w0 =>
  have hx := bounds_u8 (w0 x (by simp))
  have hy := bounds_u8 (w0 y (by simp))
  clear w0
  simp only [List.map_cons, List.map_nil]
  go_enter Try.func7, Try.ntmps7
  go_wp2_with fail
  refine (sanity_any _).mono ?_
  rintro e wa ⟨rfl, hba⟩
  have c0 : wa.cell? ⟨w.heap.size, 0, none⟩ = some (.int .u8 x) := by rw [hba.cell (p := ⟨w.heap.size, 0, none⟩) (by simp)]; simp [go_sem]
  have c1 : wa.cell? ⟨w.heap.size, 1, none⟩ = some (.int .u8 y) := by rw [hba.cell (p := ⟨w.heap.size, 1, none⟩) (by simp)]; simp [go_sem]
  have hbw : Below w.heap.size w wa := (((Below.refl _ _).alloc (Nat.le_refl _) _).trans (hba.mono (by simp)))
  clear hba
  go_wp2_with fail
  refine (felt_any x y (by omega) (by omega) (by omega) (by omega) _).mono ?_
  rintro e wb ⟨rfl, hbb⟩
  have hbb := Below.trans hbw (hbb.mono hbw.size)
  clear c0 c1 hbw
  obtain ⟨u, hu⟩ : ∃ u : Nat, x % 64 = u := ⟨(x % 64).toNat, by omega⟩
  obtain ⟨m, hm⟩ : ∃ m : Nat, y % 64 = m := ⟨(y % 64).toNat, by omega⟩
  have hu64 : u < 64 := by omega
  have hm64 : m < 64 := by omega
  rw [hu, hm]
  clear hu hm
  go_wp2_with fail
  refine (distance_any _ _ (by omega) (by omega) (by omega) (by omega) _).mono ?_
  rintro e _ ⟨rfl, rfl⟩
  have hd0 : distI (m : Int) 0 = (dots m : Nat) := by
    have := dist_nat m 0 hm64 (by omega)
    rwa [Nat.xor_zero] at this
  rw [hd0]
  have hD := dots_cell m hm64
  obtain ⟨D, hDe⟩ : ∃ D, dots m = D := ⟨_, rfl⟩
  rw [hDe] at hD ⊢
  have HDE := Lib.hid hDe
  have hblk : Blk (wb.alloc (.cells #[.int .u8 (u : Nat), .int .u8 (m : Nat)] 34)) wb.heap.size 34 #[.int .u8 (u : Nat), .int .u8 (m : Nat)] := Blk.new _ _ _
  have hbc := hbb.alloc hbb.size (.cells #[.int .u8 (u : Nat), .int .u8 (m : Nat)] 34)
  have HBLK := Lib.hid hblk
  have HBC := Lib.hid hbc
  have hsz := hbb.size
  clear hd0 hDe hbb hblk hbc
  generalize wb.alloc (.cells #[.int .u8 (u : Nat), .int .u8 (m : Nat)] 34) = wc at *
  generalize wb.heap.size = g at *
  have hlo : decide ((D : Int) < 0) = false := decide_eq_false (by omega)
  have hhi : decide ((6 : Int) < (D : Int)) = false := decide_eq_false (by omega)
  go_wp2_with fail
  clear hlo hhi
  go_loopw [6, 7] (fun n i wr => ∃ k : Nat, k ≤ 64 ∧ i = .int .i64 k ∧ n = .int .i64 (fitsTo u m k : Nat) ∧ fitsTo u m k ≤ k ∧ Blk wr g 34 #[.int .u8 (u : Nat), .int .u8 (m : Nat)] ∧ Below w.heap.size w wr) (fun _ i _ => 64 - (intOf i).toNat)
  case atStart => exact ⟨0, by omega, rfl, rfl, by simp [fitsTo], HBLK.out, HBC.out⟩
  case round =>
    obtain ⟨k, hk, rfl, rfl, hle, hblk, hb⟩ := hrel
    clear HBLK HBC
    by_cases hlt : k < 64
    · obtain ⟨d1, d2, d3, d4, d5, d6, d7⟩ := doubt u m k hu64 hm64 hlt
      have hF : Hid (fitsTo u m (k + 1) = fitsTo u m k + if fitN u m k then 1 else 0) := rfl
      rw [HDE.out] at d3
      have a0 := hblk.cell 0
      have a1 := hblk.cell 1
      simp at a0 a1
      go_wp2_with fail
      refine (cost_any _ _ _ (by omega) (by omega) (by omega) _).mono ?_
      rintro e w1 ⟨rfl, hb1⟩
      have hblk1 := hblk.keep hb1 hblk.lt
      have hbb1 := hb.trans (hb1.mono hb.size)
      clear a0 a1 hblk hb hb1
      have a0 := hblk1.cell 0
      have a1 := hblk1.cell 1
      simp at a0 a1
      go_wp2_with fail
      refine (distance_any _ _ (by omega) (by omega) (by omega) (by omega) _).mono ?_
      rintro e _ ⟨rfl, rfl⟩
      go_wp2_with fail
      refine (fits_any _ _ _ _).mono ?_
      rintro e w2 ⟨rfl, hb2⟩
      have hblk2 := hblk1.keep hb2 hblk1.lt
      have hbb2 := hbb1.trans (hb2.mono hbb1.size)
      clear a0 a1 hblk1 hbb1 hb2
      have D4 := Lib.hid d4
      have D5 := Lib.hid d5
      clear d4 d5
      have t2 : decide (costI (u : Int) m k < 0) = false := by simp; omega
      have t3 : decide (distI (u : Int) k < costI u m k) = false := by simp; omega
      have t4 : decide (costI (u : Int) m k + D < distI u k) = false := by simp; omega
      by_cases hz : costI (u : Int) m k = 0
      · have hfn : Hid (fitN u m k = true) := by unfold Hid; rw [← D5.out, D4.out, hz]; rfl
        have tf : fitsI u m k = true := by rw [D4.out, hz]; rfl
        go_wp2
        exact ⟨⟨k + 1, by omega, by go_num, by rw [hF.out, hfn.out, if_pos rfl]; go_num, by rw [hF.out, hfn.out, if_pos rfl]; omega, hblk2, hbb2⟩, by simp [intOf]; omega⟩
      · have hfn : Hid (fitN u m k = false) := by unfold Hid; rw [← D5.out, D4.out]; simpa using hz
        have tf : fitsI u m k = false := by rw [D4.out]; simpa using hz
        have tz : (costI (u : Int) m k == 0) = false := by simpa using hz
        go_wp2
        exact ⟨⟨k + 1, by omega, by go_num, by rw [hF.out, hfn.out, if_neg (by simp)]; rfl, by rw [hF.out, hfn.out, if_neg (by simp)]; omega, hblk2, hbb2⟩, by simp [intOf]; omega⟩
    · have : k = 64 := by omega
      subst this
      have hc := Lib.hid (fits_count u m hu64 hm64)
      go_wp2
      go_ret
      refine ⟨ret_bool ?_, hb⟩
      have h64 : (2 : Nat) ^ D ≤ 64 := by have := Nat.pow_le_pow_right (n := 2) (by omega) hD; simpa using this
      have h2 : (2 : Int) ^ D = ((2 ^ D : Nat) : Int) := by simp
      generalize hP : (2 : Nat) ^ D = Q at *
      have h3 : (2 : Int) ^ D = (Q : Int) := h2
      rw [h3, IntWalk.wrap64_in (Q : Int) (by omega), hc.out, HDE.out, hP]; simp

set_option maxRecDepth 100000 in
theorem lifted (os : Os) (started : os.Started) (H : Type) (enc : TypeId × Value → H) :
    ReturnsInHanded {} Try.checked os 7 .any (Rows.cellDoubtSpec.pre6 enc Try.prog Try.f7 Rows.cellDoubtRow.domain false) (Rows.cellDoubtSpec.post enc Try.prog Try.f7 false true false false) := by
  refine returnsInHanded_of_change (C := Try.checked) own started (by kernel_rfl) Try.func7
    (ChangeSpec.witness6 (enc := enc) (C := Try.checked) false ⟨#[], #[.agg #[.int .u8 0, .int .u8 0]], []⟩ 8 (by kernel_rfl) (by kernel_rfl) (by kernel_rfl) (by kernel_rfl)) ?_
  intro W base args ds gs before hval0 hW hcnd _
  have hval : ∀ (j : Nat) t v, Try.f7.params[j]? = some t → args[j]? = some v → Value.okWide Try.prog W .any base t v := hval0
  have hW' := hW
  obtain ⟨p, q, hA0, hV, rfl, hfz, hnd⟩ := hW
  have hA : DataW.TrodAll enc Try.prog W 0 (fun _ => true) true Try.f7.params.toList args.toList ds p := hA0
  rw [Try.params7] at hA hval
  obtain ⟨v0, vs0, d0, ds0, p0, q0, hargs, rfl, rfl, h0, r0⟩ := trodAll_cons hA
  obtain ⟨rfl, rfl, rfl⟩ := trodAll_nil r0
  obtain rfl : args = #[v0] := by cases args; simp_all
  obtain ⟨rfl, rfl⟩ := trodVars_none hV
  have k0 := h0
  have lt0 : ∀ x ∈ p0, x.block < W.heap.size := by obtain ⟨m, hm⟩ := k0; exact DataW.trod_lt m _ _ _ hm
  obtain ⟨a0, l0, rfl, w0⟩ := open_arr Try.underlying22 Try.underlying5 (by kernel_rfl) (by kernel_rfl) (hval 0 22 v0 rfl rfl) h0
  clear hA0 hval0
  refine (walk a0 l0 w0 W).mono fun e W' ⟨he, bel⟩ => ?_
  subst he
  exact ⟨_, rfl, _, _, _, [], _, [], hW', trodAll_mk1 (shut_bool Try.underlying4 _), (trodAll_cons_mk (Below.trod laidOut (by kernel_rfl) (of_decide_eq_true (by kernel_rfl)) k0 bel lt0) trodAll_mk0), rfl, bel.frame _, fun h => by cases h⟩

theorem over : Rows.cellDoubtRow.holds Try.pinned (OpenSpec.ofChange Rows.cellDoubtSpec) :=
  OpenClaim.holds_of_wide 7 Try.f7 rfl rfl rfl rfl rfl rfl rfl ⟨rfl, rfl, rfl, rfl, rfl⟩ rfl rfl rfl rfl rfl (by kernel_rfl) Try.func7 (by kernel_rfl)
    (of_decide_eq_true (by kernel_rfl)) (by unfold Func.isWrapper; first | (rw [if_pos (by decide +kernel)]; kernel_rfl) | (rw [if_neg (by decide +kernel)]; exact ⟨rfl, rfl⟩))
    (fun os started H enc _ => lifted os started H enc)

theorem proved : Rows.CellDoubtSaid := over
end Go.Proofs.Ytmbaebbhecfpdaa.cellDoubt
