/- P1.3: for all bytes x, y, z: Distance is a metric on cells, and Mirror preserves it. No condition. -/
import Derived.Test.YtmbaebbhecfpdaaF
import Derived.Test.YtmbaebbhecfpdaaFrame
namespace Go.Proofs.Ytmbaebbhecfpdaa.cellMetric
open Go.ChangeShapes Go.WideShapes Go.ChangeAt Go.RowKit
set_option linter.unusedVariables false

/-- What two cells owe. -/
def pair (a b : Int) : Bool :=
  (distI a b == distI b a) && ((distI a b == 0) == (a == b)) && decide (0 ≤ distI a b) && decide (distI a b ≤ 6) && decide (0 ≤ mirI a) && decide (mirI a < 64) && (mirI (mirI a) == a) && (distI (mirI a) (mirI b) == distI a b) && (distI (mirI a) 0 == distI a 0) && decide (distI a 0 ≤ 6)
theorem pairs : allB 64 (fun a => allB 64 fun b => pair a b) = true := by decide +kernel
theorem pair_any (a b : Int) (ha : 0 ≤ a) (ha2 : a < 64) (hb : 0 ≤ b) (hb2 : b < 64) : pair a b = true := by
  have := allB2_out (p := fun a b => pair a b) pairs a.toNat b.toNat (by omega) (by omega)
  rwa [show ((a.toNat : Nat) : Int) = a from by omega, show ((b.toNat : Nat) : Int) = b from by omega] at this
theorem sums : allB 64 (fun a => allB 64 fun b => decide (dots (a ^^^ b) ≤ dots a + dots b)) = true := by decide +kernel
theorem dist_nat (a b : Nat) (ha : a < 64) (hb : b < 64) : distI a b = (dots (a ^^^ b) : Nat) := by
  unfold distI cnt; rw [u8_xor_nat a b (by omega) (by omega), Int.toNat_natCast]
theorem triangle (a b c : Int) (ha : 0 ≤ a) (ha2 : a < 64) (hb : 0 ≤ b) (hb2 : b < 64) (hc : 0 ≤ c) (hc2 : c < 64) : distI a b ≤ distI a c + distI c b := by
  obtain ⟨a, rfl⟩ := Int.eq_ofNat_of_zero_le ha
  obtain ⟨b, rfl⟩ := Int.eq_ofNat_of_zero_le hb
  obtain ⟨c, rfl⟩ := Int.eq_ofNat_of_zero_le hc
  rw [dist_nat a b (by omega) (by omega), dist_nat a c (by omega) (by omega), dist_nat c b (by omega) (by omega)]
  have e : a ^^^ b = (a ^^^ c) ^^^ (c ^^^ b) := by rw [Nat.xor_assoc, ← Nat.xor_assoc c c b, Nat.xor_self, Nat.zero_xor]
  have := allB2_out (p := fun a b => decide (dots (a ^^^ b) ≤ dots a + dots b)) sums (a ^^^ c) (c ^^^ b) (Nat.xor_lt_two_pow (n := 6) (by omega) (by omega)) (Nat.xor_lt_two_pow (n := 6) (by omega) (by omega))
  rw [e]
  have h2 := of_decide_eq_true this
  omega

set_option maxRecDepth 100000 in
set_option maxHeartbeats 1000000 in
theorem walk (a0 : Int) (a1 : Int) (a2 : Int) (w0 : (Lit.int .u8 a0).wf = true) (w1 : (Lit.int .u8 a1).wf = true) (w2 : (Lit.int .u8 a2).wf = true) (w : World) :
    Calls Try.prog 6 #[.int .u8 a0, .int .u8 a1, .int .u8 a2] w fun e w' => e = .returned (.bool true) ∧ Below w.heap.size w w' := by
  have hx := bounds_u8 w0
  have hy := bounds_u8 w1
  have hz := bounds_u8 w2
  clear w0 w1 w2
  go_enter Try.func6, Try.ntmps6
  go_wp2_with fail
  refine (sanity_any _).mono ?_
  rintro e wa ⟨rfl, hb1⟩
  go_wp2_with fail
  have ha : 0 ≤ a0 % 64 ∧ a0 % 64 < 64 := by omega
  have hb : 0 ≤ a1 % 64 ∧ a1 % 64 < 64 := by omega
  have hc : 0 ≤ a2 % 64 ∧ a2 % 64 < 64 := by omega
  generalize a0 % 64 = a at *
  generalize a1 % 64 = b at *
  generalize a2 % 64 = c at *
  have hab := pair_any a b ha.1 ha.2 hb.1 hb.2
  have hac := pair_any a c ha.1 ha.2 hc.1 hc.2
  have hcb := pair_any c b hc.1 hc.2 hb.1 hb.2
  have hbb := pair_any b b hb.1 hb.2 hb.1 hb.2
  have tri := triangle a b c ha.1 ha.2 hb.1 hb.2 hc.1 hc.2
  simp only [pair, Bool.and_eq_true, decide_eq_true_eq] at hab hac hcb hbb
  obtain ⟨⟨⟨⟨⟨⟨⟨⟨⟨p1, p2⟩, p3⟩, p4⟩, p5⟩, p6⟩, p7⟩, p8⟩, p9⟩, _⟩ := hab
  obtain ⟨⟨⟨⟨⟨⟨⟨_, q3⟩, q4⟩, _⟩, _⟩, _⟩, _⟩, _⟩ := hac
  obtain ⟨⟨⟨⟨⟨⟨⟨_, r3⟩, r4⟩, _⟩, _⟩, _⟩, _⟩, _⟩ := hcb
  obtain ⟨⟨⟨⟨⟨⟨_, s5⟩, s6⟩, _⟩, _⟩, _⟩, _⟩ := hbb
  go_wp2_with (first | (go_at_call 23; refine (distance_any _ _ (by omega) (by omega) (by omega) (by omega) _).mono ?_; rintro e _ ⟨rfl, rfl⟩) | (go_at_call 25; refine (mirror_any _ (by omega) (by omega) _).mono ?_; rintro e _ ⟨rfl, rfl⟩))
  go_ret
  exact ⟨rfl, hb1⟩

set_option maxRecDepth 100000 in
theorem lifted (os : Os) (started : os.Started) (H : Type) (enc : TypeId × Value → H) :
    ReturnsInHanded {} Try.checked os 6 .any (Rows.cellMetricSpec.pre6 enc Try.prog Try.f6 Rows.cellMetricRow.domain false) (Rows.cellMetricSpec.post enc Try.prog Try.f6 false true false false) := by
  refine returnsInHanded_of_change (C := Try.checked) own started (by kernel_rfl) Try.func6
    (ChangeSpec.witness6 (enc := enc) (C := Try.checked) false ⟨#[], #[.int .u8 0, .int .u8 0, .int .u8 0], []⟩ 8 (by kernel_rfl) (by kernel_rfl) (by kernel_rfl) (by kernel_rfl)) ?_
  intro W base args ds gs before hval0 hW hcnd _
  have hval : ∀ (j : Nat) t v, Try.f6.params[j]? = some t → args[j]? = some v → Value.okWide Try.prog W .any base t v := hval0
  have hW' := hW
  obtain ⟨p, q, hA0, hV, rfl, hfz, hnd⟩ := hW
  have hA : DataW.TrodAll enc Try.prog W 0 (fun _ => true) true Try.f6.params.toList args.toList ds p := hA0
  rw [Try.params6] at hA hval
  obtain ⟨v0, vs0, d0, ds0, p0, q0, hargs, rfl, rfl, h0, r0⟩ := trodAll_cons hA
  obtain ⟨v1, vs1, d1, ds1, p1, q1, rfl, rfl, rfl, h1, r1⟩ := trodAll_cons r0
  obtain ⟨v2, vs2, d2, ds2, p2, q2, rfl, rfl, rfl, h2, r2⟩ := trodAll_cons r1
  obtain ⟨rfl, rfl, rfl⟩ := trodAll_nil r2
  obtain rfl : args = #[v0, v1, v2] := by cases args; simp_all
  obtain ⟨rfl, rfl⟩ := trodVars_none hV
  have k0 := h0
  have lt0 : ∀ x ∈ p0, x.block < W.heap.size := by obtain ⟨m, hm⟩ := k0; exact DataW.trod_lt m _ _ _ hm
  have k1 := h1
  have lt1 : ∀ x ∈ p1, x.block < W.heap.size := by obtain ⟨m, hm⟩ := k1; exact DataW.trod_lt m _ _ _ hm
  have k2 := h2
  have lt2 : ∀ x ∈ p2, x.block < W.heap.size := by obtain ⟨m, hm⟩ := k2; exact DataW.trod_lt m _ _ _ hm
  obtain ⟨a0, rfl, _, _, w0⟩ := open_int Try.underlying5 (hval 0 5 v0 rfl rfl) h0
  obtain ⟨a1, rfl, _, _, w1⟩ := open_int Try.underlying5 (hval 1 5 v1 rfl rfl) h1
  obtain ⟨a2, rfl, _, _, w2⟩ := open_int Try.underlying5 (hval 2 5 v2 rfl rfl) h2
  clear hA0 hval0
  refine (walk a0 a1 a2 w0 w1 w2 W).mono fun e W' ⟨he, bel⟩ => ?_
  subst he
  exact ⟨_, rfl, _, _, _, [], _, [], hW', trodAll_mk1 (shut_bool Try.underlying4 _), (trodAll_cons_mk (Below.trod laidOut (by kernel_rfl) (of_decide_eq_true (by kernel_rfl)) k0 bel lt0) (trodAll_cons_mk (Below.trod laidOut (by kernel_rfl) (of_decide_eq_true (by kernel_rfl)) k1 bel lt1) (trodAll_cons_mk (Below.trod laidOut (by kernel_rfl) (of_decide_eq_true (by kernel_rfl)) k2 bel lt2) trodAll_mk0))), rfl, bel.frame _, fun h => by cases h⟩

theorem over : Rows.cellMetricRow.holds Try.pinned (OpenSpec.ofChange Rows.cellMetricSpec) :=
  OpenClaim.holds_of_wide 6 Try.f6 rfl rfl rfl rfl rfl rfl rfl ⟨rfl, rfl, rfl, rfl, rfl⟩ rfl rfl rfl rfl rfl (by kernel_rfl) Try.func6 (by kernel_rfl)
    (of_decide_eq_true (by kernel_rfl)) (by unfold Func.isWrapper; first | (rw [if_pos (by decide +kernel)]; kernel_rfl) | (rw [if_neg (by decide +kernel)]; exact ⟨rfl, rfl⟩))
    (fun os started H enc _ => lifted os started H enc)

theorem proved : Rows.CellMetricSaid := over
end Go.Proofs.Ytmbaebbhecfpdaa.cellMetric
