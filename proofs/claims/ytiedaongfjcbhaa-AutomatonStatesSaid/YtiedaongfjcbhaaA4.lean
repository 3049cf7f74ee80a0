/- Merged by program: Lw4a Lw4 -/
import Derived.Test.YtiedaongfjcbhaaA3
import Derived.Test.YtiedaongfjcbhaaA2
import Derived.Test.YtiedaongfjcbhaaA1
import Derived.Test.YtiedaongfjcbhaaMake9
import Derived.Test.YtiedaongfjcbhaaOpenR
import Derived.ProofKit
import Derived.OpenShut

/-! law03.AutomatonStates. -/
namespace Go.Proofs.Ytiedaongfjcbhaa
open Go.RowKit Go.Maps
/-- What is reached from the first states, by the first rules of the next one, is marked. -/
def HitP (rs : List Rule) (L : List St) (i kk : Nat) (R : List Bool) : Prop := ∀ (x : Nat) (s : St), L[x]? = some s → (x = 0 ∨ ∃ (j k : Nat) (t : St), (j < i ∧ k < rs.length ∨ j = i ∧ k < kk) ∧ j < x ∧ L[j]? = some t ∧ stepS rs t k = (s, true)) → R[x]? = some true
theorem HitP.row {rs : List Rule} {L : List St} {i : Nat} {R : List Bool} (h : HitP rs L i rs.length R) : HitP rs L (i + 1) 0 R := fun x s hx hh => h x s hx (by
  rcases hh with e | ⟨j, k, t, h1, h2, h3, h4⟩
  · exact .inl e
  · refine .inr ⟨j, k, t, ?_, h2, h3, h4⟩
    rcases h1 with ⟨g1, g2⟩ | ⟨_, g2⟩
    · rcases Nat.lt_or_ge j i with g | g
      · exact .inl ⟨g, g2⟩
      · exact .inr ⟨by omega, g2⟩
    · omega)
theorem HitP.old {rs : List Rule} {L : List St} {i kk : Nat} {R : List Bool} {t : St} (h : HitP rs L i kk R) (ht : L[i]? = some t) (hn : (stepS rs t kk).2 = true → ∀ x, L[x]? = some (stepS rs t kk).1 → ¬ i < x) : HitP rs L i (kk + 1) R := fun x s hx hh => by
  rcases hh with e | ⟨j, k, u, h1, h2, h3, h4⟩
  · exact h x s hx (.inl e)
  · rcases h1 with g | ⟨rfl, g2⟩
    · exact h x s hx (.inr ⟨j, k, u, .inl g, h2, h3, h4⟩)
    · rcases Nat.lt_or_ge k kk with g | g
      · exact h x s hx (.inr ⟨j, k, u, .inr ⟨rfl, g⟩, h2, h3, h4⟩)
      · obtain rfl : k = kk := by omega
        rw [ht] at h3
        cases h3
        exact absurd h2 (hn (by rw [h4]) x (by rw [h4]; exact hx))
theorem HitP.new {rs : List Rule} {L : List St} {i kk p : Nat} {R : List Bool} {t : St} (h : HitP rs L i kk R) (hd : L.Nodup) (ht : L[i]? = some t) (hp : p < R.length) (hi : idxI L (stepS rs t kk).1 = p) : HitP rs L i (kk + 1) (R.set p true) := fun x s hx hh => by
  by_cases hxp : x = p
  · subst hxp
    rw [List.getElem?_set_self hp]
  · rw [List.getElem?_set_ne (Ne.symm hxp)]
    rcases hh with e | ⟨j, k, u, h1, h2, h3, h4⟩
    · exact h x s hx (.inl e)
    · rcases h1 with g | ⟨rfl, g2⟩
      · exact h x s hx (.inr ⟨j, k, u, .inl g, h2, h3, h4⟩)
      · rcases Nat.lt_or_ge k kk with g | g
        · exact h x s hx (.inr ⟨j, k, u, .inr ⟨rfl, g⟩, h2, h3, h4⟩)
        · obtain rfl : k = kk := by omega
          rw [ht] at h3
          cases h3
          rw [h4] at hi
          have := nodup_idx hd hx
          dsimp only at hi
          omega
theorem HitP.at_ {rs : List Rule} {L : List St} {i : Nat} {R : List Bool} (h : HitP rs L i 0 R) (hr : Reach rs L) {s : St} (hs : L[i]? = some s) : R[i]? = some true := by
  refine h i s hs ?_
  rcases hr i s hs with e | ⟨j, k, t, h1, h2, h3, h4⟩
  · exact .inl e
  · exact .inr ⟨j, k, t, .inl ⟨h1, h2⟩, h1, h3, h4⟩
theorem keep3 {V w' w'' : World} {b : Nat} {v0 v1 v2 : Value} (hb : Below w'.heap.size w' w'') (H : Below V.heap.size V w' ∧ w'.cell? ⟨b, 0, none⟩ = some v0 ∧ w'.cell? ⟨b, 1, none⟩ = some v1 ∧ w'.cell? ⟨b, 2, none⟩ = some v2) :
    Below V.heap.size V w'' ∧ w''.cell? ⟨b, 0, none⟩ = some v0 ∧ w''.cell? ⟨b, 1, none⟩ = some v1 ∧ w''.cell? ⟨b, 2, none⟩ = some v2 := by
  obtain ⟨h0, a0, a1, a2⟩ := H
  have key : ∀ b i v, w'.cell? ⟨b, i, none⟩ = some v → w''.cell? ⟨b, i, none⟩ = some v := fun b i v h => (hb.cell (p := ⟨b, i, none⟩) (World.block_lt_of_cell? w' ⟨b, i, none⟩ h)).trans h
  exact ⟨h0.trans (hb.mono h0.size), key _ _ _ a0, key _ _ _ a1, key _ _ _ a2⟩
/-- What the law keeps while it runs: the table, its rules, the states. -/
structure LS (w0 : World) (q : Nat) (m a : Int) (A2 : Option Addr) (k2 b : Nat) (rs : List Rule) (LL : List St) (w : World) : Prop where
  t : Blk w q 31 #[.int .i64 m, .int .u8 a, .slice A2 rs.length k2]
  r : Rules w w.heap.size A2 rs
  c : StAt w w.heap.size (some ⟨b, 0, none⟩) LL
  b : Below w0.heap.size w0 w
theorem LS.next {w0 w w' : World} {q : Nat} {m a : Int} {A2 : Option Addr} {k2 b : Nat} {rs : List Rule} {LL : List St} (h : LS w0 q m a A2 k2 b rs LL w) (hb : Below w.heap.size w w') : LS w0 q m a A2 k2 b rs LL w' :=
  ⟨h.t.keep hb h.t.lt, (h.r.keep hb).more hb.size, (h.c.keep hb).more hb.size, h.b.trans (hb.mono h.b.size)⟩
set_option maxRecDepth 10000 in
set_option maxHeartbeats 4000000 in
theorem walk_states (bs dr : Int) (A : Option Addr) (n k : Nat) (w : World) (hW : RawMs w w.heap.size A n) (hbs : 0 ≤ bs ∧ bs < 256) (hdr : 0 ≤ dr ∧ dr < 256) :
    Calls Try.prog 6 #[.agg #[.int .u8 bs, .int .u8 dr, .slice A n k]] w fun e w' => e = .returned (.bool true) ∧ Below w.heap.size w w' := by
  obtain ⟨g, hg⟩ : ∃ g, w.heap.size = g := ⟨_, rfl⟩
  have V0A : Hid (Blk (w.alloc (.cells #[.int .u8 bs, .int .u8 dr, .slice A n k] 24)) g 24 #[.int .u8 bs, .int .u8 dr, .slice A n k]) := by
    unfold Hid; rw [← hg]; exact Blk.new w _ _
  have V0B : Hid (Below w.heap.size w (w.alloc (.cells #[.int .u8 bs, .int .u8 dr, .slice A n k] 24))) := (Below.refl _ _).alloc (Nat.le_refl _) _
  have HW := Lib.hid hW
  clear hW
  go_enter Try.func6, Try.ntmps6
  go_wp2_with fail
  generalize w.alloc (.cells #[.int .u8 bs, .int .u8 dr, .slice A n k] 24) = V0 at *
  refine (sanity3_any _).mono ?_
  rintro e w1 ⟨rfl, hb1⟩
  have A1 := Lib.hid (V0A.out.keep hb1 (Blk.lt V0A.out))
  have B1 : Hid (Below w.heap.size w w1) := below_next V0B.out hb1
  clear hb1 V0A V0B
  have a0 := A1.out.cell 0
  have a1 := A1.out.cell 1
  have a2 := A1.out.cell 2
  simp only [List.getElem?_toArray, List.getElem?_cons_zero, List.getElem?_cons_succ] at a0 a1 a2
  go_wp2_with fail
  have HW1 : RawMs w1 w1.heap.size A n := HW.out.up B1.out
  refine (made_any w1 A n k bs dr HW1 hbs hdr).mono ?_
  rintro e w2 ⟨m, a, rs, v, rfl, hM, hG, hl10, hm12, ha, hb2⟩
  obtain ⟨A2, k2, rfl, hR2, _⟩ := (Made.b hM).rules
  have HFT := Lib.hid hR2.fit
  have HG := Lib.hid hG
  have R2 := Lib.hid hR2
  have B2 : Hid (Below w.heap.size w w2) := below_next B1.out hb2
  clear hb2 hM hG hR2 a0 a1 a2 HW1 B1 A1 HW
  obtain ⟨q, hq⟩ : ∃ q, w2.heap.size = q := ⟨_, rfl⟩
  go_upto_region 3 with fail
  have BA : Hid (Below w2.heap.size w2 (w2.alloc (.cells #[.int .i64 m, .int .u8 a, .slice A2 rs.length k2] 31))) := below_box _ _ _
  have T3 : Hid (Blk (w2.alloc (.cells #[.int .i64 m, .int .u8 a, .slice A2 rs.length k2] 31)) q 31 #[.int .i64 m, .int .u8 a, .slice A2 rs.length k2]) := by
    unfold Hid; rw [← hq]; exact Blk.new w2 _ _
  have R3 := Lib.hid (R2.out.up BA.out)
  have B3 : Hid (Below w.heap.size w (w2.alloc (.cells #[.int .i64 m, .int .u8 a, .slice A2 rs.length k2] 31))) := below_next B2.out BA.out
  generalize w2.alloc (.cells #[.int .i64 m, .int .u8 a, .slice A2 rs.length k2] 31) = w3 at *
  clear hq BA R2 B2
  have t0 := T3.out.cell 0
  have t1 := T3.out.cell 1
  have t2 := T3.out.cell 2
  simp only [List.getElem?_toArray, List.getElem?_cons_zero, List.getElem?_cons_succ] at t0 t1 t2
  go_wp2_with fail
  refine (states_any m a A2 rs.length k2 rs w3 rfl R3.out HG.out (by omega) (by omega)).mono ?_
  rintro e w4 ⟨LA, lk, rfl, hst, hb4⟩
  have hok := theG_ok HG.out HFT.out hm12.1
  have hlen : (theG rs).1.length ≤ 768 := by
    have := states_le (by omega) hok.2.1 hok.1
    have h2 : m.toNat ≤ 2 := by omega
    have := Nat.mul_le_mul_right 384 h2
    omega
  have hfirst := theG_first rs
  have HRC := Lib.hid (theG_reach rs)
  have HCL := Lib.hid (theG_clo HG.out HFT.out (by omega))
  have HND := Lib.hid hok.2.1
  have HSO := Lib.hid hok.1
  generalize (theG rs).1 = LL at *
  have hpos : 0 < LL.length := (List.getElem?_eq_some_iff.1 hfirst).1
  obtain ⟨b, rfl, hbl, hc⟩ := hst hpos
  have T4 := Lib.hid (T3.out.keep hb4 T3.out.lt)
  have R4 := Lib.hid ((R3.out.keep hb4).more hb4.size)
  have B4 : Hid (Below w.heap.size w w4) := below_next B3.out hb4
  have HC := Lib.hid hc
  have c0 := (hc 0 hpos).1
  have c1 := (hc 0 hpos).2.1
  have c2 := (hc 0 hpos).2.2
  rw [show LL[0] = St.start from (List.getElem?_eq_some_iff.1 hfirst).2] at c0 c1 c2
  dsimp only [St.start] at c0 c1 c2
  simp only [Nat.zero_mul, Nat.zero_add] at c0 c1 c2
  clear hb4 hst hok hc t0 t1 t2 T3 R3 B3
  have e0 : ((LL.length : Int) == 0) = false := by rw [beq_eq_false_iff_ne]; omega
  have e2 : (0 : Int) < (LL.length : Int) := by omega
  go_upto_region 4 with fail
  have hS : Below w4.heap.size w4 w4.drew ∧ w4.drew.cell? ⟨b, 0, none⟩ = some (.int .i64 0) ∧ w4.drew.cell? ⟨b, 1, none⟩ = some (.int .i64 0) ∧ w4.drew.cell? ⟨b, 2, none⟩ = some (.int .u8 63) := ⟨(Below.refl _ _).drew, c0, c1, c2⟩
  clear c0 c1 c2
  have e1 : decide ((3000 : Int) < (LL.length : Int)) = false := decide_eq_false (by omega)
  go_region_held3 (fun w' => Below w4.heap.size w4 w' ∧ w'.cell? ⟨b, 0, none⟩ = some (.int .i64 0) ∧ w'.cell? ⟨b, 1, none⟩ = some (.int .i64 0) ∧ w'.cell? ⟨b, 2, none⟩ = some (.int .u8 63)) (first | assumption | (apply keep3; (first | assumption | exact Below.drew (Below.refl _ _) | exact below_box _ _ _); assumption))
    (first | (go_at_call 26; refine (start_any _).mono ?_; rintro e wa ⟨rfl, hba⟩; rw [show St.start.val = .agg #[.int .i64 0, .int .i64 0, .int .u8 63] from rfl]))
  rename_i hheld
  have hw5 := hheld.1
  have HS5 : Hid (LS w q m a A2 k2 b rs LL wa) := (LS.mk T4.out R4.out (fun _ => ⟨b, rfl, hbl, HC.out⟩) B4.out).next hw5
  clear hheld hw5 hS T4 R4 B4 HC e0 e1 e2 hbl hba
  go_upto_block 0 with fail
  have HO : Hid ((wa.alloc (.cells #[] 4)).ownsRow wa.heap.size 4 1 (.slice (some ⟨wa.heap.size, 0, none⟩) 0 0) 0 (([] : List Bool).map Value.bool)) := World.ownsRow_lit wa #[] 0 (Nat.le_refl _) (Nat.zero_le _) rfl
  have HB : Hid (Below wa.heap.size wa (wa.alloc (.cells #[] 4))) := below_box _ _ _
  generalize wa.alloc (.cells #[] 4) = V at *
  obtain ⟨h, hh⟩ : ∃ h, wa.heap.size = h := ⟨_, rfl⟩
  rw [hh] at HO HB
  simp only [hh]
  have HH := Lib.hid hh
  clear hh
  obtain ⟨i0, hi, hz0, hz1, hz2⟩ := info_parts info_bool
  go_cut [2, 6, 7] from 34 to 52 (fun _ s6 _ wx => ∃ R : List Bool, R.length = LL.length ∧ R[0]? = some true ∧ wx.ownsRow h 4 1 s6 LL.length (R.map Value.bool) ∧ Below h wa wx)
  case first =>
    go_wp2_with fail
    go_loopw [6, 7] (fun tv x wr => ∃ (i : Nat) (R : List Bool), x = .int .i64 i ∧ i ≤ LL.length ∧ R.length = i ∧ (0 < i → R[0]? = some true) ∧ wr.ownsRow h 4 1 tv i (R.map Value.bool) ∧ Below h wa wr) (fun _ x _ => LL.length - (intOf x).toNat)
    case atStart => exact ⟨0, [], rfl, Nat.zero_le _, rfl, fun h => by omega, HO.out, HB.out⟩
    case round =>
      obtain ⟨i, R, rfl, hi1, hRl, hR0, ho, hb⟩ := hrel
      clear HO HB
      have HRL := Lib.hid hRl
      have HR0 := Lib.hid hR0
      have HO := Lib.hid ho
      have HB := Lib.hid hb
      clear hRl hR0 ho hb
      by_cases hlt : i < LL.length
      · have HSR := Lib.hid (HS5.out.next (w' := wr) (by rw [HH.out]; exact HB.out))
        obtain ⟨b', e', _, hc⟩ := HSR.out.c hpos
        obtain rfl : b = b' := by injection e' with e'; injection e'
        obtain ⟨c0, c1, c2⟩ := hc i hlt
        have HL : Hid (LL[i]? = some (LL[i]'hlt)) := List.getElem?_eq_getElem hlt
        clear hc e'
        generalize LL[i]'hlt = si at *
        obtain ⟨mo, la, ne⟩ := si
        dsimp only at c0 c1 c2
        have hI := Lib.hid hlt
        go_wp2_with fail
        refine (index_st (some ⟨b, 0, none⟩) LL.length lk LL ⟨mo, la, ne⟩ wr rfl HSR.out.c (by omega)).mono ?_
        rintro e w6 ⟨rfl, hb6⟩
        rw [nodup_idx HND.out HL.out]
        have HO6 := Lib.hid (own_keep HO.out hb6)
        have HB6 : Hid (Below h wa w6) := HB.out.trans (hb6.mono (by have := HB.out.size; have := HH.out; omega))
        clear hb6 HO HB c0 c1 c2 HSR
        go_upto_region 12 with fail
        have hN : Hid (Blk (w6.alloc (.cells #[.bool ((i : Int) == 0)] 4)) w6.heap.size 4 [Value.bool ((i : Int) == 0)].toArray) := Blk.new _ _ _
        have HO7 : Hid ((w6.alloc (.cells #[.bool ((i : Int) == 0)] 4)).ownsRow h 4 1 u6 i (R.map Value.bool)) := own_keep HO6.out (below_box _ _ _)
        have HB7 : Hid (Below h wa (w6.alloc (.cells #[.bool ((i : Int) == 0)] 4))) := HB6.out.alloc (by have := HB6.out.size; have := HH.out; omega) _
        have hsz : h ≤ (w6.alloc (.cells #[.bool ((i : Int) == 0)] 4)).heap.size := by have := HB7.out.size; have := HH.out; omega
        have h1c : ∀ u ∈ [Value.bool ((i : Int) == 0)], u.oneCell' = true := by intro u hu; simp at hu; subst hu; rfl
        go_wp2_with (at_builtin; refine wpList_append_own (w6.alloc (.cells #[.bool ((i : Int) == 0)] 4)) rfl _ _ 47 rfl h 4 i0 (.bool false) 1 1 Try.underlying47 hi hz0 hz1 hz2 rfl (by decide) u6 i _ rfl HO7.out ⟨w6.heap.size, 0, none⟩ 1 1 [.bool ((i : Int) == 0)] rfl rfl hN.out.news h1c (by unfold maxLen; omega) (by omega) hsz ?_)
        intro v7 w7 hown hgr _
        have hR : ([Value.bool ((i : Int) == 0)] : List Value) = [(i : Int) == 0].map Value.bool := rfl
        rw [hR, ← List.map_append] at hown
        have HO8 := Lib.hid hown
        have HB8 : Hid (Below h wa w7) := HB7.out.grown hgr (by have := HB7.out.size; have := HH.out; omega) (fun g hg => (HO7.out.lt g hg).1)
        clear hown hgr hR h1c HO7 HO6 HB6 hN hsz HB7
        go_wp2_with fail
        refine ⟨⟨i + 1, _, by go_num, hI.out, by rw [List.length_append, HRL.out]; rfl, fun _ => ?_, HO8.out, HB8.out⟩, by have := hI.out; simp [intOf]; omega⟩
        rcases Nat.eq_zero_or_pos i with g | g
        · subst g
          rw [List.eq_nil_of_length_eq_zero HRL.out]; rfl
        · rw [List.getElem?_append_left (by rw [HRL.out]; exact g)]; exact HR0.out g
      · have : i = LL.length := by omega
        subst this
        go_wp2_with fail
        go_meet
        exact ⟨R, HRL.out, HR0.out hpos, HO.out, HB.out⟩
  case rest =>
    obtain ⟨R, hRl, hR0, ho, hb⟩ := hcut
    have HRL := Lib.hid hRl
    have HR0 := Lib.hid hR0
    have HO := Lib.hid ho
    have HB := Lib.hid hb
    obtain ⟨RA, rk, rfl⟩ := own_shape ho
    clear hRl hR0 ho hb hi hz0 hz1 hz2
    have HH0 : Hid (HitP rs LL 0 0 R) := fun x s hx hh => by
      rcases hh with e | ⟨j, k, t, h1, _⟩
      · rw [e]; exact HR0.out
      · omega
    go_wp2_with fail
    go_loopw [8] (fun x wr => ∃ (i : Nat) (R : List Bool), x = .int .i64 i ∧ i ≤ LL.length ∧ R.length = LL.length ∧ HitP rs LL i 0 R ∧ wr.ownsRow h 4 1 (.slice RA LL.length rk) LL.length (R.map Value.bool) ∧ Below h wa wr) (fun x _ => LL.length - (intOf x).toNat)
    case atStart => exact ⟨0, R, rfl, Nat.zero_le _, HRL.out, HH0.out, HO.out, HB.out⟩
    case round =>
      clear HH0 HO HB HR0 HRL R
      obtain ⟨i, R, rfl, hi1, hRl, hh, ho, hb⟩ := hrel
      have HRL := Lib.hid hRl
      have HT := Lib.hid hh
      have HO := Lib.hid ho
      have HB := Lib.hid hb
      clear hRl hh ho hb
      by_cases hlt : i < LL.length
      · have HI := Lib.hid hlt
        have HLI : Hid (LL[i]? = some (LL[i]'hlt)) := List.getElem?_eq_getElem hlt
        have hRi := HT.out.at_ HRC.out HLI.out
        obtain ⟨rb, rfl, hrb, hrc⟩ := own_cells HO.out (j := i) (x := .bool true) (by rw [List.getElem?_map, hRi]; rfl)
        have hi0 : (0 : Int) ≤ (i : Int) := by omega
        have hi2 : (i : Int) < (LL.length : Int) := by omega
        clear hRi
        go_upto_region 18 with fail
        clear hrc hrb
        go_wp2_with fail
        go_loopw [9] (fun x wr => ∃ (kk : Nat) (R : List Bool), x = .int .i64 kk ∧ kk ≤ rs.length ∧ R.length = LL.length ∧ HitP rs LL i kk R ∧ wr.ownsRow h 4 1 (.slice (some ⟨rb, 0, none⟩) LL.length rk) LL.length (R.map Value.bool) ∧ Below h wa wr) (fun x _ => rs.length - (intOf x).toNat)
        case atStart => exact ⟨0, R, rfl, Nat.zero_le _, HRL.out, HT.out, HO.out, HB.out⟩
        case round =>
          clear HT HO HB HRL R
          obtain ⟨kk, R, rfl, hk1, hRl, hh, ho, hb⟩ := hrel
          have HRL := Lib.hid hRl
          have HT := Lib.hid hh
          have HO := Lib.hid ho
          have HB := Lib.hid hb
          have HSR := Lib.hid (HS5.out.next (w' := wr) (by rw [HH.out]; exact hb))
          clear hRl hh ho hb
          have t2 := HSR.out.t.cell 2
          simp only [List.getElem?_toArray, List.getElem?_cons_zero, List.getElem?_cons_succ] at t2
          by_cases hlk : kk < rs.length
          · have HK := Lib.hid hlk
            obtain ⟨b', e', hbb, hc⟩ := HSR.out.c hpos
            obtain rfl : b = b' := by injection e' with e'; injection e'
            obtain ⟨c0, c1, c2⟩ := hc i hlt
            obtain ⟨sr, hsr⟩ : ∃ sr, stepS rs (LL[i]'hlt) kk = sr := ⟨_, rfl⟩
            have HSE := Lib.hid hsr
            have HLI2 := Lib.hid HLI.out
            have HSF : Hid ((LL[i]'hlt).fits) := (HSO.out _ (List.getElem_mem hlt)).fit (by omega)
            clear hc e' hsr
            generalize LL[i]'hlt = si at HSE HLI2 HSF c0 c1 c2
            obtain ⟨mo, la, ne⟩ := si
            obtain ⟨⟨ta, tb, tc⟩, okb⟩ := sr
            dsimp only at c0 c1 c2
            go_upto_region 21 with fail
            refine wp_region_mid2 12 0 (by kernel_rfl) (fun y => (Value.agg #[Value.int IntKind.u8 bs, Value.int IntKind.u8 dr, Value.slice A n k]) :: (Value.pointer (some ⟨g, 0, none⟩)) :: u2 :: (Value.bool true) :: (Value.pointer (some ⟨q, 0, none⟩)) :: (Value.slice (some ⟨b, 0, none⟩) LL.length lk) :: (Value.slice (some ⟨rb, 0, none⟩) LL.length rk) :: u7 :: (Value.int IntKind.i64 ↑i) :: (Value.int IntKind.i64 ↑kk) :: y 10 :: u11 :: u12 :: (Value.bool true) :: (Value.agg #[Value.int IntKind.u8 bs, Value.int IntKind.u8 dr, Value.slice A n k]) :: (Value.agg #[Value.int IntKind.i64 m, Value.int IntKind.u8 a, Value.slice A2 rs.length k2]) :: (Value.agg #[Value.int IntKind.i64 m, Value.int IntKind.u8 a, Value.slice A2 rs.length k2]) :: (Value.slice (some ⟨b, 0, none⟩) LL.length lk) :: (Value.slice (some ⟨b, 0, none⟩) LL.length lk) :: (Value.int IntKind.i64 ↑LL.length) :: (Value.bool false) :: (Value.bool false) :: (Value.slice (some ⟨b, 0, none⟩) LL.length lk) :: (Value.int IntKind.i64 ↑LL.length) :: (Value.bool false) :: (Value.bool false) :: (Value.bool false) :: (Value.slice (some ⟨b, 0, none⟩) LL.length lk) :: (Value.pointer (some ⟨b, 0, none⟩)) :: (Value.agg #[Value.int IntKind.i64 0, Value.int IntKind.i64 0, Value.int IntKind.u8 63]) :: (Value.agg #[Value.int IntKind.i64 0, Value.int IntKind.i64 0, Value.int IntKind.u8 63]) :: (Value.bool false) :: (Value.bool false) :: (Value.slice (some ⟨h, 0, none⟩) 0 0) :: u34 :: u35 :: u36 :: u37 :: u38 :: u39 :: u40 :: u41 :: u42 :: u43 :: u44 :: u45 :: u46 :: u47 :: u48 :: u49 :: u50 :: u51 :: u52 :: (Value.int IntKind.i64 ↑i) :: (Value.slice (some ⟨b, 0, none⟩) LL.length lk) :: (Value.int IntKind.i64 ↑LL.length) :: (Value.bool true) :: u57 :: u58 :: (Value.slice (some ⟨rb, 0, none⟩) LL.length rk) :: (Value.int IntKind.i64 ↑i) :: (Value.pointer (some ⟨rb, i, none⟩)) :: (Value.bool true) :: (Value.bool false) :: (Value.int IntKind.i64 ↑kk) :: (Value.pointer (some ⟨q, 2, none⟩)) :: (Value.slice A2 rs.length k2) :: (Value.int IntKind.i64 ↑rs.length) :: (Value.bool true) :: u69 :: u70 :: y 7 :: y 0 :: y 1 :: y 2 :: y 3 :: y 4 :: y 5 :: y 6 :: y 8 :: y 9 :: u81 :: u82 :: u83 :: u84 :: u85 :: u86 :: u87 :: u88 :: u89 :: u90 :: u91 :: u92 :: u93 :: u94 :: u95 :: u96 :: u97 :: undef :: []) (stS wr ((⟨ta, tb, tc⟩, okb) : St × Bool).1) (phiS wr (.agg #[.int .i64 m, .int .u8 a, .slice A2 rs.length k2]) (.slice (some ⟨b, 0, none⟩) LL.length lk) (.int .i64 i) (.pointer (some ⟨b, i * 3, none⟩)) (.agg #[.int .i64 mo, .int .i64 la, .int .u8 ne]) (.int .i64 kk) ((⟨ta, tb, tc⟩, okb) : St × Bool)) (fun i => match i with | 0 => u72 | 1 => u73 | 2 => u74 | 3 => u75 | 4 => u76 | 5 => u77 | 6 => u78 | 7 => u71 | 8 => u79 | 9 => u80 | 10 => u10 | _ => undef)
              (by kernel_rfl) (by kernel_rfl) (by kernel_rfl) (by kernel_rfl) ?_ [0, 1, 2, 3, 4, 5, 6, 7, 8, 9, 10, 11] (by kernel_rfl) ?_ ?_
            · exact ⟨(Below.refl _ _).drew, fun h => by cases h⟩
            · refine allCons ?_ (allCons ?_ (allCons ?_ (allCons ?_ (allCons ?_ (allCons ?_ (allCons ?_ (allCons ?_ (allCons ?_ (allCons ?_ (allCons ?_ (allCons ?_ allNil)))))))))))
              all_goals intro bl y w10 K3 hbi hS hd hK3
              · have hS3 := HSR.out.next hS.1
                have q0 := hS3.t.cell 0
                have q1 := hS3.t.cell 1
                have q2 := hS3.t.cell 2
                simp only [List.getElem?_toArray, List.getElem?_cons_zero, List.getElem?_cons_succ] at q0 q1 q2
                refine wpOp_step rfl (fun K2 hK2 => ?_)
                go_simp
                exact hK2 _ _ (hK3 _ _ (stS_same hS (by decide) (Below.refl _ _)) rfl (fun _ _ h => h))
              · refine wpOp_step rfl (fun K2 hK2 => ?_)
                go_simp
                exact hK2 _ _ (hK3 _ _ (stS_same hS (by decide) (Below.refl _ _)) rfl (fun _ _ h => h))
              · refine wpOp_step rfl (fun K2 hK2 => ?_)
                go_simp
                exact hK2 _ _ (hK3 _ _ (stS_same hS (by decide) (Below.refl _ _)) rfl (fun _ _ h => h))
              · have e1 : y 1 = _ := (hd 1 rfl).2
                have e2 : y 2 = _ := (hd 2 rfl).2
                obtain ⟨y, rfl⟩ := upd_at (y := y) (i := 1) e1
                obtain ⟨y, rfl⟩ := upd_at (y := y) (i := 2) e2
                dsimp [upd]
                refine wpOp_step rfl (fun K2 hK2 => ?_)
                go_simp
                exact hK2 _ _ (hK3 _ _ (stS_same hS (by decide) (Below.refl _ _)) rfl (fun _ _ h => h))
              · have e3 : y 3 = _ := (hd 3 rfl).2
                obtain ⟨y, rfl⟩ := upd_at (y := y) (i := 3) e3
                dsimp [upd]
                have q0 := (hS.1.cell (p := ⟨b, i * 3, none⟩) hbb).trans c0
                have q1 := (hS.1.cell (p := ⟨b, i * 3 + 1, none⟩) hbb).trans c1
                have q2 := (hS.1.cell (p := ⟨b, i * 3 + 2, none⟩) hbb).trans c2
                refine wpOp_step rfl (fun K2 hK2 => ?_)
                go_simp
                exact hK2 _ _ (hK3 _ _ (stS_same hS (by decide) (Below.refl _ _)) rfl (fun _ _ h => h))
              · refine wpOp_step rfl (fun K2 hK2 => ?_)
                go_simp
                exact hK2 _ _ (hK3 _ _ (stS_same hS (by decide) (Below.refl _ _)) rfl (fun _ _ h => h))
              · have e0 : y 0 = _ := (hd 0 rfl).2
                have e4 : y 4 = _ := (hd 4 rfl).2
                have e5 : y 5 = _ := (hd 5 rfl).2
                obtain ⟨y, rfl⟩ := upd_at (y := y) (i := 0) e0
                obtain ⟨y, rfl⟩ := upd_at (y := y) (i := 4) e4
                obtain ⟨y, rfl⟩ := upd_at (y := y) (i := 5) e5
                dsimp [upd]
                have hS3 := HSR.out.next hS.1
                refine wpOp_step rfl (fun K2 hK2 => ?_)
                go_simp
                refine (step_any m a A2 rs.length k2 rs ⟨mo, la, ne⟩ kk rfl HSF.out (by omega) w10 hS3.r).mono ?_
                rw [HSE.out]
                rintro e' w2 ⟨rfl, hb⟩
                exact hK2 _ _ (hK3 _ _ (stS_same hS (by decide) hb) rfl (fun _ _ h => phiS_below hb h))
              · have e6 : y 6 = _ := (hd 6 rfl).2
                obtain ⟨y, rfl⟩ := upd_at (y := y) (i := 6) e6
                dsimp [upd]
                refine wpOp_step rfl (fun K2 hK2 => ?_)
                go_simp
                exact hK2 _ _ (hK3 _ _ (stS_same hS (by decide) (Below.refl _ _)) rfl (fun _ _ h => h))
              · have e7 : y 7 = _ := (hd 7 rfl).2
                obtain ⟨y, rfl⟩ := upd_at (y := y) (i := 7) e7
                dsimp [upd]
                refine wpOp_step rfl (fun K2 hK2 => ?_)
                go_simp
                exact hK2 _ _ (hK3 _ _ (stS_same hS (by decide) (Below.refl _ _)) rfl (fun _ _ h => h))
              · have e7 : y 7 = _ := (hd 7 rfl).2
                obtain ⟨y, rfl⟩ := upd_at (y := y) (i := 7) e7
                dsimp [upd]
                refine wpOp_step rfl (fun K2 hK2 => ?_)
                go_simp
                exact hK2 _ _ (hK3 _ _ (stS_same hS (by decide) (Below.refl _ _)) rfl (fun _ _ h => h))
              · refine wpOp_step rfl (fun K2 hK2 => ?_)
                go_simp
                exact hK2 _ _ (hK3 _ _ (stS_alloc hS hbi _) ⟨_, rfl, hS.1.size, _, _, _, Blk.new _ _ _⟩ (fun _ _ h => phiS_below (below_box _ _ _) h))
              · have e8 : y 8 = .agg #[.int .i64 ((⟨ta, tb, tc⟩, okb) : St × Bool).1.mode, .int .i64 ((⟨ta, tb, tc⟩, okb) : St × Bool).1.last, .int .u8 ((⟨ta, tb, tc⟩, okb) : St × Bool).1.need] := (hd 8 rfl).2
                obtain ⟨hb10, g, e10, hg, za, zb, zc, hB⟩ := hd 10 rfl
                have hS2 := stS_store (v := undef) hS hb10 e10 hg hB
                obtain ⟨y, rfl⟩ := upd_at (y := y) (i := 8) e8
                obtain ⟨y, rfl⟩ := upd_at (y := y) (i := 10) e10
                dsimp [upd]
                have d0 := hB.cell 0
                have d1 := hB.cell 1
                have d2 := hB.cell 2
                have f0 := hB.free 0
                have f1 := hB.free 1
                have f2 := hB.free 2
                simp only [List.getElem?_toArray, List.getElem?_cons_zero, List.getElem?_cons_succ] at d0 d1 d2
                refine wpOp_step rfl (fun K2 hK2 => ?_)
                go_simp
                exact hK2 _ _ (hK3 undef _ hS2 trivial (fun _ _ hφ => phiS_store hφ))
            · intro bl y w10 f hall hS hd
              have e9 : y 9 = _ := hd 9 (by decide)
              obtain ⟨_, g10, e10, hg10, hB10⟩ := hS.2 (hall 11 (by decide))
              have hb10 := hS.1
              clear hd hall hS
              obtain ⟨y, rfl⟩ := upd_at (y := y) (i := 9) e9
              obtain ⟨y, rfl⟩ := upd_at (y := y) (i := 10) e10
              dsimp [upd]
              refine wpAny_one (i := 12) (by kernel_rfl) ?_
              refine wpOp_step rfl (fun K2 hK2 => ?_)
              go_simp
              refine hK2 _ _ ?_
              clear hK2 K2 e9 e10
              refine wpAny_done (by kernel_rfl) ?_ _
              have HS10 := Lib.hid (HSR.out.next hb10)
              have HO10 := Lib.hid (own_keep HO.out hb10)
              have HB10 : Hid (Below h wa w10) := HB.out.trans (hb10.mono (by have := HB.out.size; have := HH.out; omega))
              have hrg : g10 ≠ rb := (own_ne3 HO10.out hB10 (by decide) |> fun hne e => hne (by rw [e]; rfl))
              have d0 := hB10.cell 0
              have d1 := hB10.cell 1
              have d2 := hB10.cell 2
              simp only [List.getElem?_toArray, List.getElem?_cons_zero, List.getElem?_cons_succ] at d0 d1 d2
              clear hb10 hB10 hg10 c0 c1 c2 HSR HO HB t2 hbb
              go_wp2_with fail
              refine (index_st (some ⟨b, 0, none⟩) LL.length lk LL ⟨ta, tb, tc⟩ w10 rfl HS10.out.c (by omega)).mono ?_
              rintro e w12 ⟨rfl, hb12⟩
              have HO12 := Lib.hid (own_keep HO10.out hb12)
              have HB12 : Hid (Below h wa w12) := HB10.out.trans (hb12.mono (by have := HB10.out.size; have := HH.out; omega))
              clear hb12 HS10 HO10 HB10 d0 d1 d2 hrg
              cases okb with
              | false =>
                have HN : Hid (HitP rs LL i (kk + 1) R) := HT.out.old HLI2.out (fun h2 => by rw [HSE.out] at h2; cases h2)
                generalize idxI LL ⟨ta, tb, tc⟩ = px at *
                go_wp2_with fail
                exact ⟨⟨kk + 1, R, by go_num, HK.out, HRL.out, HN.out, HO12.out, HB12.out⟩, by have := HK.out; simp [intOf]; omega⟩
              | true =>
                have hmem : (⟨ta, tb, tc⟩ : St) ∈ LL := by
                  have := HCL.out i _ HI.out HLI2.out kk HK.out (by rw [HSE.out])
                  rwa [HSE.out] at this
                obtain ⟨px, hpx, hpl⟩ := idx_mem hmem
                have hpl2 := (List.getElem?_eq_some_iff.1 hpl).1
                have HPX := Lib.hid hpx
                rw [hpx]
                clear hpx hmem
                have hp0 : (0 : Int) ≤ (px : Int) := by omega
                have hp1 : (px : Int) < (LL.length : Int) := by omega
                by_cases hip : i < px
                · have HN : Hid (HitP rs LL i (kk + 1) (R.set px true)) := HT.out.new HND.out HLI2.out (by rw [HRL.out]; exact hpl2) (by rw [HSE.out]; exact HPX.out)
                  obtain ⟨cur, hcur⟩ := own_blk HO12.out rfl
                  have q0 := hcur.cell px
                  have f0 := hcur.free px
                  have hoc := own_cells HO12.out (j := px) (x := .bool (R[px]'(by rw [HRL.out]; exact hpl2))) (by rw [List.getElem?_map, List.getElem?_eq_getElem]; rfl)
                  obtain ⟨rb', e', _, hrc⟩ := hoc
                  obtain rfl : rb = rb' := by injection e' with e'; injection e'
                  have HO13 := Lib.hid (own_setAt HO12.out hpl2 (.bool true))
                  have HB13 : Hid (Below h wa (w12.setCell ⟨rb, px, none⟩ (.bool true))) := HB12.out.setCell (HO12.out.lt rb rfl).1 _
                  have hip2 : (i : Int) < (px : Int) := by omega
                  clear e' q0 hcur
                  go_wp2_with fail
                  refine ⟨⟨kk + 1, R.set px true, by go_num, HK.out, by rw [List.length_set]; exact HRL.out, HN.out, ?_, HB13.out⟩, by have := HK.out; simp [intOf]; omega⟩
                  rw [List.map_set]; exact HO13.out
                · have HN : Hid (HitP rs LL i (kk + 1) R) := HT.out.old HLI2.out (fun _ x hx hix => by
                    rw [HSE.out] at hx
                    dsimp only at hx
                    have := nodup_idx HND.out hx
                    have := HPX.out
                    omega)
                  have hip2 : ¬ (i : Int) < (px : Int) := by omega
                  go_wp2_with fail
                  exact ⟨⟨kk + 1, R, by go_num, HK.out, HRL.out, HN.out, HO12.out, HB12.out⟩, by have := HK.out; simp [intOf]; omega⟩
          · have : kk = rs.length := by omega
            subst this
            have HN : Hid (HitP rs LL (i + 1) 0 R) := HT.out.row
            go_wp2_with fail
            exact ⟨⟨i + 1, R, by go_num, HI.out, HRL.out, HN.out, HO.out, HB.out⟩, by have := HI.out; simp [intOf]; omega⟩
      · have : i = LL.length := by omega
        subst this
        have HE : Hid (Below w.heap.size w wr) := (HS5.out.next (w' := wr) (by rw [HH.out]; exact HB.out)).b
        go_wp2_with fail
        go_ret
        exact ⟨rfl, HE.out⟩
end Go.Proofs.Ytiedaongfjcbhaa

/-! law03.AutomatonStates: the row. -/
namespace Go.Proofs.Ytiedaongfjcbhaa
open Go.ChangeShapes Go.WideShapes Go.ChangeAt Go.WideMaps Go.WideElems Go.RowKit

theorem own : ownKnob Try.prog.godebug = none := by kernel_rfl
theorem laidOut : laidOutB Try.prog = true := by kernel_rfl
set_option maxRecDepth 100000 in
theorem lifted (os : Os) (started : os.Started) (H : Type) (enc : TypeId × Value → H) :
    ReturnsInHanded {} Try.checked os 6 .any (Rows.automatonStatesSpec.pre6 enc Try.prog Try.f6 Rows.automatonStatesRow.domain false) (Rows.automatonStatesSpec.post enc Try.prog Try.f6 false true false false) := by
  refine returnsInHanded_of_change (C := Try.checked) own started (by kernel_rfl) Try.func6
    (ChangeSpec.witness6 (enc := enc) (C := Try.checked) false ⟨#[], #[.agg #[.int .u8 0, .int .u8 0, .slice none 0 0]], []⟩ 8 (by kernel_rfl) (by kernel_rfl) (by kernel_rfl) (by kernel_rfl)) ?_
  intro W base args ds gs before hval0 hW hcnd _
  have hval : ∀ (j : Nat) t v, Try.f6.params[j]? = some t → args[j]? = some v → Value.okWide Try.prog W .any base t v := hval0
  have hW' := hW
  obtain ⟨p, q, hA0, hV, rfl, hfz, hnd⟩ := hW
  have hA : DataW.TrodAll enc Try.prog W 0 (fun _ => true) true Try.f6.params.toList args.toList ds p := hA0
  rw [Try.params6] at hA hval
  obtain ⟨v0, vs0, d0, ds0, p0, q0, hargs, rfl, rfl, h0, r0⟩ := trodAll_cons hA
  obtain ⟨rfl, rfl, rfl⟩ := trodAll_nil r0
  obtain rfl : args = #[v0] := by cases args; simp_all
  obtain ⟨rfl, rfl⟩ := trodVars_none hV
  have k0 := h0
  have lt0 : ∀ x ∈ p0, x.block < W.heap.size := by obtain ⟨m, hm⟩ := k0; exact DataW.trod_lt m _ _ _ hm
  obtain ⟨bs, dr, A, n, k, rfl, hr0, hbs, hdr⟩ := open_raw (hval 0 24 v0 rfl rfl) h0
  clear hA0 hval0
  refine (walk_states bs dr A n k W hr0 hbs hdr).mono fun e W' ⟨he, bel⟩ => ?_
  subst he
  exact ⟨_, rfl, _, _, _, [], _, [], hW', trodAll_mk1 (shut_bool Try.underlying4 _), (trodAll_cons_mk (Below.trod laidOut (by kernel_rfl) (of_decide_eq_true (by kernel_rfl)) k0 bel lt0) trodAll_mk0), rfl, bel.frame _, fun h => by cases h⟩

theorem over : Rows.automatonStatesRow.holds Try.pinned (OpenSpec.ofChange Rows.automatonStatesSpec) :=
  OpenClaim.holds_of_wide 6 Try.f6 rfl rfl rfl rfl rfl rfl rfl ⟨rfl, rfl, rfl, rfl, rfl⟩ rfl rfl rfl rfl rfl (by kernel_rfl) Try.func6 (by kernel_rfl)
    (of_decide_eq_true (by kernel_rfl)) (by unfold Func.isWrapper; first | (rw [if_pos (by decide +kernel)]; kernel_rfl) | (rw [if_neg (by decide +kernel)]; exact ⟨rfl, rfl⟩))
    (fun os started H enc _ => lifted os started H enc)

theorem proved : Rows.AutomatonStatesSaid := over
end Go.Proofs.Ytiedaongfjcbhaa
