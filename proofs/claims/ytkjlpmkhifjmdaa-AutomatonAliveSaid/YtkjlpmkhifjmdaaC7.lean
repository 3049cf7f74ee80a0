/- Merged by program: Lw7a Lw7 -/
import Derived.Test.YtkjlpmkhifjmdaaQ20
import Derived.Test.YtkjlpmkhifjmdaaQ21
import Derived.Test.YtkjlpmkhifjmdaaQ15
import Derived.Test.YtkjlpmkhifjmdaaQ22
import Derived.ProofKit
import Derived.OpenShut

/-! law03.AutomatonAlive. -/
namespace Go.Proofs.Ytkjlpmkhifjmdaa
open Go.RowKit Go.Maps
theorem prog_states {m a : Int} {A : Option Addr} {n k q : Nat} {rs : List Rule} {V : World} (hT : TB q m a A n k rs V) (hn : rs.length = n) (hG : GoodL m a rs) (hmax : n ≤ 64) (hm : 1 ≤ m ∧ m ≤ 8) {P : Prop} (W : World) (hW : Below V.heap.size V W ∧ P) :
    Calls Try.prog 20 #[.agg #[.int .i64 m, .int .u8 a, .slice A n k]] W (StEnd rs W) := states_any m a A n k rs W hn (hT.next hW.1).r hG hmax hm
theorem prog_alive {m a : Int} {A : Option Addr} {n k q : Nat} {rs : List Rule} {V : World} (hT : TB q m a A n k rs V) (hn : rs.length = n) (hG : GoodL m a rs) (hmax : n ≤ 64) (hm : 1 ≤ m ∧ m ≤ 8) (ha : 0 ≤ a ∧ a < 256) {P : Prop} (W : World) (hW : Below V.heap.size V W ∧ P) :
    Calls Try.prog 23 #[.agg #[.int .i64 m, .int .u8 a, .slice A n k]] W (AlEnd a rs W) := alive_any m a A n k rs W hn (hT.next hW.1).r hG hmax hm ha
/-- What the law keeps while it runs: the table, the states, who is alive. -/
structure LV (w0 : World) (q : Nat) (m a : Int) (A2 : Option Addr) (k2 b bb : Nat) (rs : List Rule) (LL : List St) (AL : List Bool) (w : World) : Prop where
  t : TB q m a A2 rs.length k2 rs w
  c : StAt w w.heap.size (some ⟨b, 0, none⟩) LL
  v : BoolAt w w.heap.size (some ⟨bb, 0, none⟩) AL
  b : Below w0.heap.size w0 w
theorem LV.next {w0 w w' : World} {q : Nat} {m a : Int} {A2 : Option Addr} {k2 b bb : Nat} {rs : List Rule} {LL : List St} {AL : List Bool} (h : LV w0 q m a A2 k2 b bb rs LL AL w) (hb : Below w.heap.size w w') : LV w0 q m a A2 k2 b bb rs LL AL w' :=
  ⟨h.t.next hb, (h.c.keep hb).more hb.size, (h.v.keep hb).more hb.size, h.b.trans (hb.mono h.b.size)⟩
def WantP (a : Int) (rs : List Rule) (s : St) (kk : Nat) (q : Bool) : Prop := q = true ↔ (accB a s = true ∨ ∃ k : Nat, k < kk ∧ (stepS rs s k).2 = true ∧ Alv a rs (stepS rs s k).1)
theorem WantP.start {a : Int} {rs : List Rule} {s : St} : WantP a rs s 0 (accB a s) := ⟨fun h => .inl h, fun h => by
  rcases h with h | ⟨k, h, _⟩
  · exact h
  · omega⟩
theorem WantP.yes {a : Int} {rs : List Rule} {s : St} {kk : Nat} (h : WantP a rs s kk true) : WantP a rs s (kk + 1) true := ⟨fun _ => by
  rcases h.1 rfl with e | ⟨k, h1, h2⟩
  · exact .inl e
  · exact .inr ⟨k, by omega, h2⟩, fun _ => rfl⟩
theorem WantP.no {a : Int} {rs : List Rule} {s : St} {kk : Nat} (h : WantP a rs s kk false) (hn : ¬ ((stepS rs s kk).2 = true ∧ Alv a rs (stepS rs s kk).1)) : WantP a rs s (kk + 1) false := ⟨fun e => (by cases e), fun g => by
  rcases g with e | ⟨k, h1, h2⟩
  · exact h.2 (.inl e)
  · rcases Nat.lt_or_ge k kk with g1 | g1
    · exact h.2 (.inr ⟨k, g1, h2⟩)
    · obtain rfl : k = kk := by omega
      exact absurd h2 hn⟩
theorem WantP.new {a : Int} {rs : List Rule} {s : St} {kk : Nat} (h2 : (stepS rs s kk).2 = true) (h3 : Alv a rs (stepS rs s kk).1) : WantP a rs s (kk + 1) true := ⟨fun _ => .inr ⟨kk, by omega, h2, h3⟩, fun _ => rfl⟩
theorem WantP.done {a : Int} {rs : List Rule} {s : St} {q : Bool} (h : WantP a rs s rs.length q) : q = true ↔ Alv a rs s := h.trans alv_cases.symm
theorem keep6 {V w' w'' : World} {q b o : Nat} {v0 v1 v2 u0 u1 u2 : Value} (hb : Below w'.heap.size w' w'') (H : Below V.heap.size V w' ∧ w'.cell? ⟨q, 0, none⟩ = some v0 ∧ w'.cell? ⟨q, 1, none⟩ = some v1 ∧ w'.cell? ⟨q, 2, none⟩ = some v2 ∧ w'.cell? ⟨b, o, none⟩ = some u0 ∧ w'.cell? ⟨b, o + 1, none⟩ = some u1 ∧ w'.cell? ⟨b, o + 2, none⟩ = some u2) :
    Below V.heap.size V w'' ∧ w''.cell? ⟨q, 0, none⟩ = some v0 ∧ w''.cell? ⟨q, 1, none⟩ = some v1 ∧ w''.cell? ⟨q, 2, none⟩ = some v2 ∧ w''.cell? ⟨b, o, none⟩ = some u0 ∧ w''.cell? ⟨b, o + 1, none⟩ = some u1 ∧ w''.cell? ⟨b, o + 2, none⟩ = some u2 := by
  obtain ⟨h0, a0, a1, a2, c0, c1, c2⟩ := H
  have key : ∀ b i v, w'.cell? ⟨b, i, none⟩ = some v → w''.cell? ⟨b, i, none⟩ = some v := fun b i v h => (hb.cell (p := ⟨b, i, none⟩) (World.block_lt_of_cell? w' ⟨b, i, none⟩ h)).trans h
  exact ⟨h0.trans (hb.mono h0.size), key _ _ _ a0, key _ _ _ a1, key _ _ _ a2, key _ _ _ c0, key _ _ _ c1, key _ _ _ c2⟩
set_option maxRecDepth 10000 in
set_option maxHeartbeats 4000000 in
theorem walk_alive (bs dr : Int) (A : Option Addr) (n k : Nat) (XA : Option Addr) (xk : Nat) (xs : List Int) (w : World) (hW : RawMs w w.heap.size A n) (hbs : 0 ≤ bs ∧ bs < 256) (hdr : 0 ≤ dr ∧ dr < 256) (hX : Seq w w.heap.size XA xs) (hxs : ∀ z ∈ xs, 0 ≤ z ∧ z < 256) :
    Calls Try.prog 7 #[.agg #[.int .u8 bs, .int .u8 dr, .slice A n k], .slice XA xs.length xk] w fun e w' => e = .returned (.bool true) ∧ Below w.heap.size w w' := by
  obtain ⟨g, hg⟩ : ∃ g, w.heap.size = g := ⟨_, rfl⟩
  have V0A : Hid (Blk (w.alloc (.cells #[.int .u8 bs, .int .u8 dr, .slice A n k] 24)) g 24 #[.int .u8 bs, .int .u8 dr, .slice A n k]) := by
    unfold Hid; rw [← hg]; exact Blk.new w _ _
  have V0B : Hid (Below w.heap.size w (w.alloc (.cells #[.int .u8 bs, .int .u8 dr, .slice A n k] 24))) := (Below.refl _ _).alloc (Nat.le_refl _) _
  have HW := Lib.hid hW
  have HX := Lib.hid hX
  have HXS := Lib.hid hxs
  clear hW hX hxs
  go_enter Try.func7, Try.ntmps7
  go_wp2_with fail
  generalize w.alloc (.cells #[.int .u8 bs, .int .u8 dr, .slice A n k] 24) = V0 at *
  refine (sanity3_any _).mono ?_
  rintro e w1 ⟨rfl, hb1⟩
  have A1 := Lib.hid (V0A.out.keep hb1 (Blk.lt V0A.out))
  have B1 : Hid (Below w.heap.size w w1) := below_next V0B.out hb1
  clear hb1 V0A V0B
  have a0 := A1.out.cell 0
  have a1 := A1.out.cell 1
  have a2 := A1.out.cell 2
  simp only [List.getElem?_toArray, List.getElem?_cons_zero, List.getElem?_cons_succ] at a0 a1 a2
  go_wp2_with fail
  have HW1 : RawMs w1 w1.heap.size A n := HW.out.up B1.out
  refine (made_any w1 A n k bs dr HW1 hbs hdr).mono ?_
  rintro e w2 ⟨m, a, rs, v, rfl, hM, hG, hl10, hm12, ha, hb2⟩
  obtain ⟨A2, k2, rfl, hR2, _⟩ := (Made.b hM).rules
  have HG := Lib.hid hG
  have R2 := Lib.hid hR2
  have B2 : Hid (Below w.heap.size w w2) := below_next B1.out hb2
  clear hb2 hM hG hR2 a0 a1 a2 HW1 B1 A1 HW
  obtain ⟨q, hq⟩ : ∃ q, w2.heap.size = q := ⟨_, rfl⟩
  go_upto_region 3 with fail
  have BA : Hid (Below w2.heap.size w2 (w2.alloc (.cells #[.int .i64 m, .int .u8 a, .slice A2 rs.length k2] 31))) := below_box _ _ _
  have T3 : Hid (Blk (w2.alloc (.cells #[.int .i64 m, .int .u8 a, .slice A2 rs.length k2] 31)) q 31 #[.int .i64 m, .int .u8 a, .slice A2 rs.length k2]) := by
    unfold Hid; rw [← hq]; exact Blk.new w2 _ _
  have R3 := Lib.hid (R2.out.up BA.out)
  have B3 : Hid (Below w.heap.size w (w2.alloc (.cells #[.int .i64 m, .int .u8 a, .slice A2 rs.length k2] 31))) := below_next B2.out BA.out
  generalize w2.alloc (.cells #[.int .i64 m, .int .u8 a, .slice A2 rs.length k2] 31) = w3 at *
  clear hq BA R2 B2
  have HTB : Hid (TB q m a A2 rs.length k2 rs w3) := ⟨T3.out, R3.out⟩
  have hS : Below w3.heap.size w3 w3.drew ∧ w3.drew.cell? ⟨q, 0, none⟩ = some (.int .i64 m) ∧ w3.drew.cell? ⟨q, 1, none⟩ = some (.int .u8 a) ∧ w3.drew.cell? ⟨q, 2, none⟩ = some (.slice A2 rs.length k2) := ⟨(Below.refl _ _).drew, T3.out.cell 0, T3.out.cell 1, T3.out.cell 2⟩
  have hm8 : 1 ≤ m ∧ m ≤ 8 := by omega
  have hmax : rs.length ≤ 64 := by omega
  have HFT := Lib.hid R3.out.fit
  go_region_held3 (fun w' => Below w3.heap.size w3 w' ∧ w'.cell? ⟨q, 0, none⟩ = some (.int .i64 m) ∧ w'.cell? ⟨q, 1, none⟩ = some (.int .u8 a) ∧ w'.cell? ⟨q, 2, none⟩ = some (.slice A2 rs.length k2)) (first | assumption | (apply keepW; (first | assumption | exact Below.drew (Below.refl _ _) | exact below_box _ _ _); assumption))
    (first
      | (go_at_call 20; refine (prog_states HTB.out rfl HG.out hmax hm8 _ (by assumption)).mono ?_; rintro e wa ⟨SA, sk, rfl, hst, hba⟩)
      | (go_at_call 23; refine (prog_alive HTB.out rfl HG.out hmax hm8 ha _ (by assumption)).mono ?_; rintro e wb ⟨bb, rfl, hbt, hbl2, hbl3, hbb⟩))
  rename_i hheld
  have hb31 : Below w3.heap.size w3 wb := hheld.1
  have hok := theG_ok HG.out HFT.out hm8.1
  have hlen : (theG rs).1.length ≤ 768 := by
    have := states_le (by omega) hok.2.1 hok.1
    have h2 : m.toNat ≤ 2 := by omega
    have := Nat.mul_le_mul_right 384 h2
    omega
  have hfirst := theG_first rs
  have hal := alive_len HG.out HFT.out hm8
  have HAI : Hid (∀ i s, (theG rs).1[i]? = some s → ((aliveL a (theG rs))[i]? = some true ↔ Alv a rs s)) := fun i s hs => alive_iff HG.out HFT.out hm8 hs
  have HCL := Lib.hid (theG_clo HG.out HFT.out hm8)
  have HND := Lib.hid hok.2.1
  have HSO := Lib.hid hok.1
  generalize aliveL a (theG rs) = AL at *
  generalize (theG rs).1 = LL at *
  have hpos : 0 < LL.length := (List.getElem?_eq_some_iff.1 hfirst).1
  obtain ⟨b, rfl, hbl, hc⟩ := hst hpos
  have HLV : Hid (LV w q m a A2 k2 b bb rs LL AL wb) := by
    refine ⟨HTB.out.next hb31, (StAt.keep (fun _ => ⟨b, rfl, hbl, hc⟩) hbb).more hbb.size, fun _ => ⟨bb, rfl, Blk.lt hbt, fun j hj => ?_⟩, below_next B3.out hb31⟩
    rw [hbt.cell j]
    simp [hj]
  have HFI := Lib.hid hfirst
  have e0 : ((LL.length : Int) == 0) = false := by rw [beq_eq_false_iff_ne]; omega
  have e1 : decide ((3000 : Int) < (LL.length : Int)) = false := decide_eq_false (by omega)
  have e2 : ((LL.length : Int) != (LL.length : Int)) = false := by simp
  clear hst hbt hbb hheld hb31 hok hfirst hbl hc hS HTB T3 R3 B3 hba hbl3
  go_wp2_with fail
  go_loopw [9] (fun x wr => ∃ i : Nat, x = .int .i64 i ∧ i ≤ LL.length ∧ LV w q m a A2 k2 b bb rs LL AL wr) (fun x _ => LL.length - (intOf x).toNat)
  case atStart => exact ⟨0, rfl, Nat.zero_le _, HLV.out⟩
  case round =>
    clear HLV
    obtain ⟨i, rfl, hi1, hlv⟩ := hrel
    have HV := Lib.hid hlv
    clear hlv
    by_cases hlt : i < LL.length
    · have HI := Lib.hid hlt
      have t0 := HV.out.t.t.cell 0
      have t1 := HV.out.t.t.cell 1
      have t2 := HV.out.t.t.cell 2
      simp only [List.getElem?_toArray, List.getElem?_cons_zero, List.getElem?_cons_succ] at t0 t1 t2
      obtain ⟨b', e', hbb, hc⟩ := HV.out.c hpos
      obtain rfl : b = b' := by injection e' with e'; injection e'
      obtain ⟨c0, c1, c2⟩ := hc i hlt
      have HLI : Hid (LL[i]? = some (LL[i]'hlt)) := List.getElem?_eq_getElem hlt
      have HSF : Hid ((LL[i]'hlt).fits) := (HSO.out _ (List.getElem_mem hlt)).fit hm8.2
      clear hc e'
      generalize LL[i]'hlt = si at *
      obtain ⟨mo, la, ne⟩ := si
      dsimp only at c0 c1 c2
      have hi0 : (0 : Int) ≤ (i : Int) := by omega
      have hin : (i : Int) < (LL.length : Int) := by omega
      go_upto_region 9 with fail
      have hS : Below wr.heap.size wr wr.drew ∧ wr.drew.cell? ⟨q, 0, none⟩ = some (.int .i64 m) ∧ wr.drew.cell? ⟨q, 1, none⟩ = some (.int .u8 a) ∧ wr.drew.cell? ⟨q, 2, none⟩ = some (.slice A2 rs.length k2) ∧ wr.drew.cell? ⟨b, i * 3, none⟩ = some (.int .i64 mo) ∧ wr.drew.cell? ⟨b, i * 3 + 1, none⟩ = some (.int .i64 la) ∧ wr.drew.cell? ⟨b, i * 3 + 2, none⟩ = some (.int .u8 ne) := ⟨(Below.refl _ _).drew, t0, t1, t2, c0, c1, c2⟩
      clear t0 t1 t2 c0 c1 c2 e0 e1 e2
      go_region_held3 (fun w' => Below wr.heap.size wr w' ∧ w'.cell? ⟨q, 0, none⟩ = some (.int .i64 m) ∧ w'.cell? ⟨q, 1, none⟩ = some (.int .u8 a) ∧ w'.cell? ⟨q, 2, none⟩ = some (.slice A2 rs.length k2) ∧ w'.cell? ⟨b, i * 3, none⟩ = some (.int .i64 mo) ∧ w'.cell? ⟨b, i * 3 + 1, none⟩ = some (.int .i64 la) ∧ w'.cell? ⟨b, i * 3 + 2, none⟩ = some (.int .u8 ne)) (first | assumption | (apply keep6; (first | assumption | exact Below.drew (Below.refl _ _) | exact below_box _ _ _); assumption))
        (first
          | (go_at_call 14; refine (accepts_any m a A2 rs.length k2 ⟨mo, la, ne⟩ ha HSF.out _).mono ?_; rintro e wd ⟨rfl, hbd⟩))
      rename_i hheld
      have HV2 := Lib.hid (HV.out.next hheld.1)
      clear hheld hS hbd HV
      go_wp2_with fail
      go_loopw [10, 11] (fun s10 x wr => ∃ (kk : Nat) (qb : Bool), x = .int .i64 kk ∧ kk ≤ rs.length ∧ s10 = .bool qb ∧ WantP a rs ⟨mo, la, ne⟩ kk qb ∧ LV w q m a A2 k2 b bb rs LL AL wr) (fun _ x _ => rs.length - (intOf x).toNat)
      case atStart => exact ⟨0, _, rfl, Nat.zero_le _, rfl, WantP.start, HV2.out⟩
      case round =>
        clear HV2
        obtain ⟨kk, qb, rfl, hk1, rfl, hwp, hlv⟩ := hrel
        have HWP := Lib.hid hwp
        have HV := Lib.hid hlv
        clear hwp hlv
        have t2 := HV.out.t.t.cell 2
        simp only [List.getElem?_toArray, List.getElem?_cons_zero, List.getElem?_cons_succ] at t2
        by_cases hlk : kk < rs.length
        · have HK := Lib.hid hlk
          obtain ⟨b', e', hbb, hc⟩ := HV.out.c hpos
          obtain rfl : b = b' := by injection e' with e'; injection e'
          have cc := hc i hlt
          rw [(List.getElem?_eq_some_iff.1 HLI.out).2] at cc
          obtain ⟨c0, c1, c2⟩ := cc
          dsimp only at c0 c1 c2
          obtain ⟨sr, hsr⟩ : ∃ sr, stepS rs ⟨mo, la, ne⟩ kk = sr := ⟨_, rfl⟩
          have HSE := Lib.hid hsr
          clear hc e' hsr
          obtain ⟨⟨ta, tb, tc⟩, okb⟩ := sr
          go_upto_region 13 with fail
          refine wp_region_mid2 12 0 (by kernel_rfl) (fun y => (Value.agg #[Value.int IntKind.u8 bs, Value.int IntKind.u8 dr, Value.slice A n k]) :: (Value.slice XA xs.length xk) :: (Value.pointer (some ⟨g, 0, none⟩)) :: undef :: u4 :: (Value.bool true) :: (Value.pointer (some ⟨q, 0, none⟩)) :: (Value.slice (some ⟨b, 0, none⟩) LL.length sk) :: (Value.slice (some ⟨bb, 0, none⟩) LL.length LL.length) :: (Value.int IntKind.i64 ↑i) :: (Value.bool qb) :: (Value.int IntKind.i64 ↑kk) :: y 10 :: u13 :: u14 :: undef :: undef :: (Value.bool true) :: (Value.agg #[Value.int IntKind.u8 bs, Value.int IntKind.u8 dr, Value.slice A n k]) :: (Value.agg #[Value.int IntKind.i64 m, Value.int IntKind.u8 a, Value.slice A2 rs.length k2]) :: (Value.agg #[Value.int IntKind.i64 m, Value.int IntKind.u8 a, Value.slice A2 rs.length k2]) :: (Value.slice (some ⟨b, 0, none⟩) LL.length sk) :: (Value.agg #[Value.int IntKind.i64 m, Value.int IntKind.u8 a, Value.slice A2 rs.length k2]) :: (Value.slice (some ⟨bb, 0, none⟩) LL.length LL.length) :: (Value.slice (some ⟨b, 0, none⟩) LL.length sk) :: (Value.int IntKind.i64 ↑LL.length) :: (Value.bool false) :: (Value.bool false) :: (Value.slice (some ⟨b, 0, none⟩) LL.length sk) :: (Value.int IntKind.i64 ↑LL.length) :: (Value.bool false) :: (Value.bool false) :: (Value.bool false) :: (Value.slice (some ⟨bb, 0, none⟩) LL.length LL.length) :: (Value.int IntKind.i64 ↑LL.length) :: (Value.slice (some ⟨b, 0, none⟩) LL.length sk) :: (Value.int IntKind.i64 ↑LL.length) :: (Value.bool false) :: (Value.bool false) :: (Value.int IntKind.i64 ↑i) :: (Value.slice (some ⟨b, 0, none⟩) LL.length sk) :: (Value.int IntKind.i64 ↑LL.length) :: (Value.bool true) :: u43 :: u44 :: (Value.agg #[Value.int IntKind.i64 m, Value.int IntKind.u8 a, Value.slice A2 rs.length k2]) :: (Value.slice (some ⟨b, 0, none⟩) LL.length sk) :: (Value.int IntKind.i64 ↑i) :: (Value.pointer (some ⟨b, i * 3, none⟩)) :: (Value.agg #[Value.int IntKind.i64 mo, Value.int IntKind.i64 la, Value.int IntKind.u8 ne]) :: (Value.bool (accB a ⟨mo, la, ne⟩)) :: (Value.int IntKind.i64 ↑kk) :: (Value.pointer (some ⟨q, 2, none⟩)) :: (Value.slice A2 rs.length k2) :: (Value.int IntKind.i64 ↑rs.length) :: (Value.bool true) :: u56 :: u57 :: y 7 :: y 0 :: y 1 :: y 2 :: y 3 :: y 4 :: y 5 :: y 6 :: y 8 :: y 9 :: u68 :: u69 :: u70 :: u71 :: u72 :: u73 :: u74 :: u75 :: u76 :: u77 :: u78 :: u79 :: u80 :: u81 :: u82 :: u83 :: u84 :: u85 :: u86 :: u87 :: u88 :: u89 :: u90 :: undef :: undef :: undef :: undef :: undef :: undef :: undef :: undef :: undef :: undef :: undef :: undef :: undef :: undef :: undef :: undef :: undef :: undef :: undef :: undef :: undef :: undef :: undef :: undef :: []) (stS wr ((⟨ta, tb, tc⟩, okb) : St × Bool).1) (phiS wr (.agg #[.int .i64 m, .int .u8 a, .slice A2 rs.length k2]) (.slice (some ⟨b, 0, none⟩) LL.length sk) (.int .i64 i) (.pointer (some ⟨b, i * 3, none⟩)) (.agg #[.int .i64 mo, .int .i64 la, .int .u8 ne]) (.int .i64 kk) ((⟨ta, tb, tc⟩, okb) : St × Bool)) (fun i => match i with | 0 => u59 | 1 => u60 | 2 => u61 | 3 => u62 | 4 => u63 | 5 => u64 | 6 => u65 | 7 => u58 | 8 => u66 | 9 => u67 | 10 => u12 | _ => undef)
            (by kernel_rfl) (by kernel_rfl) (by kernel_rfl) (by kernel_rfl) ?_ [0, 1, 2, 3, 4, 5, 6, 7, 8, 9, 10, 11] (by kernel_rfl) ?_ ?_
          · exact ⟨(Below.refl _ _).drew, fun h => by cases h⟩
          · refine allCons ?_ (allCons ?_ (allCons ?_ (allCons ?_ (allCons ?_ (allCons ?_ (allCons ?_ (allCons ?_ (allCons ?_ (allCons ?_ (allCons ?_ (allCons ?_ allNil)))))))))))
            all_goals intro bl y w10 K3 hbi hS hd hK3
            · have hS3 := (HV.out.next hS.1).t
              have q0 := hS3.t.cell 0
              have q1 := hS3.t.cell 1
              have q2 := hS3.t.cell 2
              simp only [List.getElem?_toArray, List.getElem?_cons_zero, List.getElem?_cons_succ] at q0 q1 q2
              refine wpOp_step rfl (fun K2 hK2 => ?_)
              go_simp
              exact hK2 _ _ (hK3 _ _ (stS_same hS (by decide) (Below.refl _ _)) rfl (fun _ _ h => h))
            · refine wpOp_step rfl (fun K2 hK2 => ?_)
              go_simp
              exact hK2 _ _ (hK3 _ _ (stS_same hS (by decide) (Below.refl _ _)) rfl (fun _ _ h => h))
            · refine wpOp_step rfl (fun K2 hK2 => ?_)
              go_simp
              exact hK2 _ _ (hK3 _ _ (stS_same hS (by decide) (Below.refl _ _)) rfl (fun _ _ h => h))
            · have e1 : y 1 = _ := (hd 1 rfl).2
              have e2 : y 2 = _ := (hd 2 rfl).2
              obtain ⟨y, rfl⟩ := upd_at (y := y) (i := 1) e1
              obtain ⟨y, rfl⟩ := upd_at (y := y) (i := 2) e2
              dsimp [upd]
              refine wpOp_step rfl (fun K2 hK2 => ?_)
              go_simp
              exact hK2 _ _ (hK3 _ _ (stS_same hS (by decide) (Below.refl _ _)) rfl (fun _ _ h => h))
            · have e3 : y 3 = _ := (hd 3 rfl).2
              obtain ⟨y, rfl⟩ := upd_at (y := y) (i := 3) e3
              dsimp [upd]
              have q0 := (hS.1.cell (p := ⟨b, i * 3, none⟩) hbb).trans c0
              have q1 := (hS.1.cell (p := ⟨b, i * 3 + 1, none⟩) hbb).trans c1
              have q2 := (hS.1.cell (p := ⟨b, i * 3 + 2, none⟩) hbb).trans c2
              refine wpOp_step rfl (fun K2 hK2 => ?_)
              go_simp
              exact hK2 _ _ (hK3 _ _ (stS_same hS (by decide) (Below.refl _ _)) rfl (fun _ _ h => h))
            · refine wpOp_step rfl (fun K2 hK2 => ?_)
              go_simp
              exact hK2 _ _ (hK3 _ _ (stS_same hS (by decide) (Below.refl _ _)) rfl (fun _ _ h => h))
            · have e0 : y 0 = _ := (hd 0 rfl).2
              have e4 : y 4 = _ := (hd 4 rfl).2
              have e5 : y 5 = _ := (hd 5 rfl).2
              obtain ⟨y, rfl⟩ := upd_at (y := y) (i := 0) e0
              obtain ⟨y, rfl⟩ := upd_at (y := y) (i := 4) e4
              obtain ⟨y, rfl⟩ := upd_at (y := y) (i := 5) e5
              dsimp [upd]
              have hS3 := (HV.out.next hS.1).t
              refine wpOp_step rfl (fun K2 hK2 => ?_)
              go_simp
              refine (step_any m a A2 rs.length k2 rs ⟨mo, la, ne⟩ kk rfl HSF.out (by omega) w10 hS3.r).mono ?_
              rw [HSE.out]
              rintro e' w2 ⟨rfl, hb⟩
              exact hK2 _ _ (hK3 _ _ (stS_same hS (by decide) hb) rfl (fun _ _ h => phiS_below hb h))
            · have e6 : y 6 = _ := (hd 6 rfl).2
              obtain ⟨y, rfl⟩ := upd_at (y := y) (i := 6) e6
              dsimp [upd]
              refine wpOp_step rfl (fun K2 hK2 => ?_)
              go_simp
              exact hK2 _ _ (hK3 _ _ (stS_same hS (by decide) (Below.refl _ _)) rfl (fun _ _ h => h))
            · have e7 : y 7 = _ := (hd 7 rfl).2
              obtain ⟨y, rfl⟩ := upd_at (y := y) (i := 7) e7
              dsimp [upd]
              refine wpOp_step rfl (fun K2 hK2 => ?_)
              go_simp
              exact hK2 _ _ (hK3 _ _ (stS_same hS (by decide) (Below.refl _ _)) rfl (fun _ _ h => h))
            · have e7 : y 7 = _ := (hd 7 rfl).2
              obtain ⟨y, rfl⟩ := upd_at (y := y) (i := 7) e7
              dsimp [upd]
              refine wpOp_step rfl (fun K2 hK2 => ?_)
              go_simp
              exact hK2 _ _ (hK3 _ _ (stS_same hS (by decide) (Below.refl _ _)) rfl (fun _ _ h => h))
            · refine wpOp_step rfl (fun K2 hK2 => ?_)
              go_simp
              exact hK2 _ _ (hK3 _ _ (stS_alloc hS hbi _) ⟨_, rfl, hS.1.size, _, _, _, Blk.new _ _ _⟩ (fun _ _ h => phiS_below (below_box _ _ _) h))
            · have e8 : y 8 = .agg #[.int .i64 ((⟨ta, tb, tc⟩, okb) : St × Bool).1.mode, .int .i64 ((⟨ta, tb, tc⟩, okb) : St × Bool).1.last, .int .u8 ((⟨ta, tb, tc⟩, okb) : St × Bool).1.need] := (hd 8 rfl).2
              obtain ⟨hb10, g, e10, hg, za, zb, zc, hB⟩ := hd 10 rfl
              have hS2 := stS_store (v := undef) hS hb10 e10 hg hB
              obtain ⟨y, rfl⟩ := upd_at (y := y) (i := 8) e8
              obtain ⟨y, rfl⟩ := upd_at (y := y) (i := 10) e10
              dsimp [upd]
              have d0 := hB.cell 0
              have d1 := hB.cell 1
              have d2 := hB.cell 2
              have f0 := hB.free 0
              have f1 := hB.free 1
              have f2 := hB.free 2
              simp only [List.getElem?_toArray, List.getElem?_cons_zero, List.getElem?_cons_succ] at d0 d1 d2
              refine wpOp_step rfl (fun K2 hK2 => ?_)
              go_simp
              exact hK2 _ _ (hK3 undef _ hS2 trivial (fun _ _ hφ => phiS_store hφ))
          · intro bl y w10 f hall hS hd
            have e9 : y 9 = _ := hd 9 (by decide)
            obtain ⟨_, g10, e10, hg10, hB10⟩ := hS.2 (hall 11 (by decide))
            have hb10 := hS.1
            clear hd hall hS
            obtain ⟨y, rfl⟩ := upd_at (y := y) (i := 9) e9
            obtain ⟨y, rfl⟩ := upd_at (y := y) (i := 10) e10
            dsimp [upd]
            refine wpAny_one (i := 12) (by kernel_rfl) ?_
            refine wpOp_step rfl (fun K2 hK2 => ?_)
            go_simp
            refine hK2 _ _ ?_
            clear hK2 K2 e9 e10
            refine wpAny_done (by kernel_rfl) ?_ _
            have HV10 := Lib.hid (HV.out.next hb10)
            have d0 := hB10.cell 0
            have d1 := hB10.cell 1
            have d2 := hB10.cell 2
            simp only [List.getElem?_toArray, List.getElem?_cons_zero, List.getElem?_cons_succ] at d0 d1 d2
            clear hb10 hB10 hg10 c0 c1 c2 HV t2 hbb
            go_wp2_with fail
            refine (index_st (some ⟨b, 0, none⟩) LL.length sk LL ⟨ta, tb, tc⟩ w10 rfl HV10.out.c (by omega)).mono ?_
            rintro e w12 ⟨rfl, hb12⟩
            have HV12 := Lib.hid (HV10.out.next hb12)
            clear hb12 d0 d1 d2 HV10
            cases qb with
            | true =>
              have HN := Lib.hid HWP.out.yes
              generalize idxI LL ⟨ta, tb, tc⟩ = px at *
              go_wp2_with fail
              exact ⟨⟨kk + 1, true, by go_num, HK.out, rfl, HN.out, HV12.out⟩, by have := HK.out; simp [intOf]; omega⟩
            | false =>
              cases okb with
              | false =>
                have HN : Hid (WantP a rs ⟨mo, la, ne⟩ (kk + 1) false) := HWP.out.no (fun h => by rw [HSE.out] at h; cases h.1)
                generalize idxI LL ⟨ta, tb, tc⟩ = px at *
                go_wp2_with fail
                exact ⟨⟨kk + 1, false, by go_num, HK.out, rfl, HN.out, HV12.out⟩, by have := HK.out; simp [intOf]; omega⟩
              | true =>
                have hmem : (⟨ta, tb, tc⟩ : St) ∈ LL := by
                  have := HCL.out i _ HI.out HLI.out kk HK.out (by rw [HSE.out])
                  rwa [HSE.out] at this
                obtain ⟨px, hpx, hpl⟩ := idx_mem hmem
                rw [hpx]
                have hpl2 := (List.getElem?_eq_some_iff.1 hpl).1
                have hav : px < AL.length := by omega
                obtain ⟨b9, e9, _, hvc⟩ := HV12.out.v (by omega)
                obtain rfl : bb = b9 := by injection e9 with e9; injection e9
                have v0 := hvc px hav
                have HAP : Hid (AL[px]? = some (AL[px]'hav)) := List.getElem?_eq_getElem hav
                have HAX := Lib.hid (HAI.out px _ hpl)
                have hp0 : (0 : Int) ≤ (px : Int) := by omega
                have hp1 : (px : Int) < (LL.length : Int) := by omega
                clear hvc e9 hpx hmem hpl
                generalize AL[px]'hav = bq at *
                cases bq with
                | false =>
                  have HN : Hid (WantP a rs ⟨mo, la, ne⟩ (kk + 1) false) := HWP.out.no (fun h => by
                    rw [HSE.out] at h
                    have := HAX.out.2 h.2
                    rw [HAP.out] at this
                    cases this)
                  go_wp2_with fail
                  exact ⟨⟨kk + 1, false, by go_num, HK.out, rfl, HN.out, HV12.out⟩, by have := HK.out; simp [intOf]; omega⟩
                | true =>
                  have HN : Hid (WantP a rs ⟨mo, la, ne⟩ (kk + 1) true) := WantP.new (by rw [HSE.out]) (by rw [HSE.out]; exact HAX.out.1 HAP.out)
                  go_wp2_with fail
                  exact ⟨⟨kk + 1, true, by go_num, HK.out, rfl, HN.out, HV12.out⟩, by have := HK.out; simp [intOf]; omega⟩
        · have hkn : kk = rs.length := by omega
          subst hkn
          have hav : i < AL.length := by omega
          obtain ⟨b9, e9, _, hvc⟩ := HV.out.v (by omega)
          obtain rfl : bb = b9 := by injection e9 with e9; injection e9
          have v0 := hvc i hav
          have hq : AL[i]'hav = qb := by
            have h1 := HWP.out.done
            have h2 := HAI.out i _ HLI.out
            rw [List.getElem?_eq_getElem hav] at h2
            cases hA : AL[i]'hav <;> cases qb <;> simp_all
          rw [hq] at v0
          clear hvc e9 hq
          have hne : (qb != qb) = false := by simp
          go_wp2_with fail
          exact ⟨⟨i + 1, by go_num, HI.out, HV.out⟩, by have := HI.out; simp [intOf]; omega⟩
    · clear e0 e1 e2
      have t0 := HV.out.t.t.cell 0
      have t1 := HV.out.t.t.cell 1
      have t2 := HV.out.t.t.cell 2
      simp only [List.getElem?_toArray, List.getElem?_cons_zero, List.getElem?_cons_succ] at t0 t1 t2
      go_wp2_with fail
      refine (walk_any m a A2 rs.length k2 rs wr rfl HV.out.t.r HG.out hmax hm8 ha XA xs.length xk xs rfl (HX.out.up HV.out.b) HXS.out).mono ?_
      rintro e w5 ⟨hb5, PA, pk, ks, hown, hend⟩
      have HV5 := Lib.hid (HV.out.next hb5)
      have HO := Lib.hid hown
      clear hb5 hown t0 t1 t2 HV HX
      have hav : 0 < AL.length := by omega
      obtain ⟨b9, e9, _, hvc⟩ := HV5.out.v (by omega)
      obtain rfl : bb = b9 := by injection e9 with e9; injection e9
      have v0 := hvc 0 hav
      have h0 := HAI.out 0 _ HFI.out
      rw [List.getElem?_eq_getElem hav] at h0
      clear hvc e9
      rcases hend with ⟨rfl, rfl, hna⟩ | ⟨rfl, hok, hkl⟩
      · have hq : AL[0]'hav = false := by
          cases hA : AL[0]'hav with
          | false => rfl
          | true => exact absurd (h0.1 (by rw [hA])) hna
        rw [hq] at v0
        clear hq h0 hna
        go_wp2_with fail
        go_ret
        exact ⟨rfl, HV5.out.b⟩
      · have hq : AL[0]'hav = true := by
          have := h0.2 (ok_alive hok)
          injection this
        rw [hq] at v0
        clear hq h0
        have t0 := HV5.out.t.t.cell 0
        have t1 := HV5.out.t.t.cell 1
        have t2 := HV5.out.t.t.cell 2
        simp only [List.getElem?_toArray, List.getElem?_cons_zero, List.getElem?_cons_succ] at t0 t1 t2
        have HOK := Lib.hid hok
        clear hok
        go_wp2_with fail
        refine (run_any m a A2 rs.length k2 rs PA ks.length pk ks w5 rfl HV5.out.t.r HG.out hmax hm8 ha rfl (own_seqN HO.out) (by omega)).mono ?_
        rintro e w6 ⟨CA, ck, rfl, _, hb6⟩
        rw [HOK.out]
        have HV6 := Lib.hid (HV5.out.next hb6)
        clear hb6 t0 t1 t2 v0 HV5 HO
        generalize strOf (runT rs ks).p = S at *
        generalize (runT rs ks).c.length = cn at *
        generalize (runT rs ks).n = tn at *
        generalize (runT rs ks).st.mode = y1 at *
        generalize (runT rs ks).st.last = y2 at *
        generalize (runT rs ks).st.need = y3 at *
        have hfd : ∀ w, (Instr.field 41 (.agg #[.string S, .slice CA cn ck, .int .i64 (tn : Nat), .int .i64 y1, .int .i64 y2, .int .u8 y3, .bool true]) 4).run Try.prog w = .ok (.bool true) w := fun w => by kernel_rfl
        go_wp2_with fail
        go_ret
        exact ⟨rfl, HV6.out.b⟩
end Go.Proofs.Ytkjlpmkhifjmdaa

/-! law03.AutomatonAlive: the row. -/
namespace Go.Proofs.Ytkjlpmkhifjmdaa
open Go.ChangeShapes Go.WideShapes Go.ChangeAt Go.WideMaps Go.WideElems Go.RowKit

theorem own : ownKnob Try.prog.godebug = none := by kernel_rfl
theorem laidOut : laidOutB Try.prog = true := by kernel_rfl
set_option maxRecDepth 100000 in
theorem lifted (os : Os) (started : os.Started) (H : Type) (enc : TypeId × Value → H) :
    ReturnsInHanded {} Try.checked os 7 .any (Rows.automatonAliveSpec.pre6 enc Try.prog Try.f7 Rows.automatonAliveRow.domain false) (Rows.automatonAliveSpec.post enc Try.prog Try.f7 false true false false) := by
  refine returnsInHanded_of_change (C := Try.checked) own started (by kernel_rfl) Try.func7
    (ChangeSpec.witness6 (enc := enc) (C := Try.checked) false ⟨#[], #[.agg #[.int .u8 0, .int .u8 0, .slice none 0 0], .slice none 0 0], []⟩ 8 (by kernel_rfl) (by kernel_rfl) (by kernel_rfl) (by kernel_rfl)) ?_
  intro W base args ds gs before hval0 hW hcnd _
  have hval : ∀ (j : Nat) t v, Try.f7.params[j]? = some t → args[j]? = some v → Value.okWide Try.prog W .any base t v := hval0
  have hW' := hW
  obtain ⟨p, q, hA0, hV, rfl, hfz, hnd⟩ := hW
  have hA : DataW.TrodAll enc Try.prog W 0 (fun _ => true) true Try.f7.params.toList args.toList ds p := hA0
  rw [Try.params7] at hA hval
  obtain ⟨v0, vs0, d0, ds0, p0, q0, hargs, rfl, rfl, h0, r0⟩ := trodAll_cons hA
  obtain ⟨v1, vs1, d1, ds1, p1, q1, rfl, rfl, rfl, h1, r1⟩ := trodAll_cons r0
  obtain ⟨rfl, rfl, rfl⟩ := trodAll_nil r1
  obtain rfl : args = #[v0, v1] := by cases args; simp_all
  obtain ⟨rfl, rfl⟩ := trodVars_none hV
  have k0 := h0
  have lt0 : ∀ x ∈ p0, x.block < W.heap.size := by obtain ⟨m, hm⟩ := k0; exact DataW.trod_lt m _ _ _ hm
  have k1 := h1
  have lt1 : ∀ x ∈ p1, x.block < W.heap.size := by obtain ⟨m, hm⟩ := k1; exact DataW.trod_lt m _ _ _ hm
  obtain ⟨bs, dr, A, n, k, rfl, hr0, hbs, hdr⟩ := open_raw (hval 0 24 v0 rfl rfl) h0
  obtain ⟨XA1, xk1, xs1, rfl, hx1, hz1⟩ := open_bytesL (hval 1 50 v1 rfl rfl) h1
  clear hA0 hval0
  refine (walk_alive bs dr A n k XA1 xk1 xs1 W hr0 hbs hdr hx1 hz1).mono fun e W' ⟨he, bel⟩ => ?_
  subst he
  exact ⟨_, rfl, _, _, _, [], _, [], hW', trodAll_mk1 (shut_bool Try.underlying4 _), (trodAll_cons_mk (Below.trod laidOut (by kernel_rfl) (of_decide_eq_true (by kernel_rfl)) k0 bel lt0) (trodAll_cons_mk (Below.trod laidOut (by kernel_rfl) (of_decide_eq_true (by kernel_rfl)) k1 bel lt1) trodAll_mk0)), rfl, bel.frame _, fun h => by cases h⟩

theorem over : Rows.automatonAliveRow.holds Try.pinned (OpenSpec.ofChange Rows.automatonAliveSpec) :=
  OpenClaim.holds_of_wide 7 Try.f7 rfl rfl rfl rfl rfl rfl rfl ⟨rfl, rfl, rfl, rfl, rfl⟩ rfl rfl rfl rfl rfl (by kernel_rfl) Try.func7 (by kernel_rfl)
    (of_decide_eq_true (by kernel_rfl)) (by unfold Func.isWrapper; first | (rw [if_pos (by decide +kernel)]; kernel_rfl) | (rw [if_neg (by decide +kernel)]; exact ⟨rfl, rfl⟩))
    (fun os started H enc _ => lifted os started H enc)

theorem proved : Rows.AutomatonAliveSaid := over
end Go.Proofs.Ytkjlpmkhifjmdaa
