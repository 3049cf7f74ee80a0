/- Package automaton: Step. -/
import Derived.Test.YtiedaongfjcbhaaAut2
import Derived.Test.YtiedaongfjcbhaaTab11
namespace Go.Proofs.Ytiedaongfjcbhaa
open Go.RowKit

def St.zero : St := ⟨0, 0, 0⟩
/-- Step: the state to which a rule leads, and whether it applies. -/
def stepS (rs : List Rule) (s : St) (k : Int) : St × Bool := if k < 0 then (St.zero, false) else match rs[k.toNat]? with
  | none => (St.zero, false)
  | some x => match stepR x s with
    | none => (St.zero, false)
    | some t => (t, true)
def StepEnd (r : St × Bool) (w : World) (e : Ending) (w' : World) : Prop := e = .returned (.tuple #[r.1.val, .bool r.2]) ∧ Below w.heap.size w w'
theorem stepS_out {rs : List Rule} {s : St} {k : Int} (h : k < 0 ∨ (rs.length : Int) ≤ k) : stepS rs s k = (St.zero, false) := by
  unfold stepS
  rcases h with h | h
  · rw [if_pos h]
  · by_cases h0 : k < 0
    · rw [if_pos h0]
    · rw [if_neg h0, List.getElem?_eq_none (by omega)]
theorem stepS_at {rs : List Rule} {s : St} {j : Nat} {x : Rule} (h : rs[j]? = some x) : stepS rs s (j : Int) = match stepR x s with
    | none => (St.zero, false)
    | some t => (t, true) := by
  unfold stepS
  rw [if_neg (by omega), Int.toNat_natCast, h]
theorem step_pre (w : World) (m a : Int) (A : Option Addr) (n k : Nat) (mo la ne : Int) :
    Blk (((w.alloc (.cells #[.int .i64 m, .int .u8 a, .slice A n k] 31)).alloc (.cells #[.int .i64 mo, .int .i64 la, .int .u8 ne] 26)).alloc (.cells #[.int .i64 0, .int .i64 0, .int .u8 0] 26)) w.heap.size 31 #[.int .i64 m, .int .u8 a, .slice A n k] ∧ Blk (((w.alloc (.cells #[.int .i64 m, .int .u8 a, .slice A n k] 31)).alloc (.cells #[.int .i64 mo, .int .i64 la, .int .u8 ne] 26)).alloc (.cells #[.int .i64 0, .int .i64 0, .int .u8 0] 26)) (w.heap.size + 1) 26 #[.int .i64 mo, .int .i64 la, .int .u8 ne] ∧ Blk (((w.alloc (.cells #[.int .i64 m, .int .u8 a, .slice A n k] 31)).alloc (.cells #[.int .i64 mo, .int .i64 la, .int .u8 ne] 26)).alloc (.cells #[.int .i64 0, .int .i64 0, .int .u8 0] 26)) (w.heap.size + 1 + 1) 26 #[.int .i64 0, .int .i64 0, .int .u8 0] ∧ Below w.heap.size w (((w.alloc (.cells #[.int .i64 m, .int .u8 a, .slice A n k] 31)).alloc (.cells #[.int .i64 mo, .int .i64 la, .int .u8 ne] 26)).alloc (.cells #[.int .i64 0, .int .i64 0, .int .u8 0] 26)) ∧ (((w.alloc (.cells #[.int .i64 m, .int .u8 a, .slice A n k] 31)).alloc (.cells #[.int .i64 mo, .int .i64 la, .int .u8 ne] 26)).alloc (.cells #[.int .i64 0, .int .i64 0, .int .u8 0] 26)).heap.size = w.heap.size + 3 := by
  have b0 := below_box w #[.int .i64 m, .int .u8 a, .slice A n k] 31
  have n0 := Blk.new w #[.int .i64 m, .int .u8 a, .slice A n k] 31
  have s0 : (w.alloc (.cells #[.int .i64 m, .int .u8 a, .slice A n k] 31)).heap.size = w.heap.size + 1 := by simp
  generalize w.alloc (.cells #[.int .i64 m, .int .u8 a, .slice A n k] 31) = w1 at *
  have n1 := Blk.new w1 #[.int .i64 mo, .int .i64 la, .int .u8 ne] 26
  have s1 : (w1.alloc (.cells #[.int .i64 mo, .int .i64 la, .int .u8 ne] 26)).heap.size = w1.heap.size + 1 := by simp
  have b1 := b0.alloc (by omega) (.cells #[.int .i64 mo, .int .i64 la, .int .u8 ne] 26)
  have n0' : Blk (w1.alloc (.cells #[.int .i64 mo, .int .i64 la, .int .u8 ne] 26)) w.heap.size 31 #[.int .i64 m, .int .u8 a, .slice A n k] := n0.box
  generalize w1.alloc (.cells #[.int .i64 mo, .int .i64 la, .int .u8 ne] 26) = w2 at *
  have n2 := Blk.new w2 #[.int .i64 0, .int .i64 0, .int .u8 0] 26
  have s2 : (w2.alloc (.cells #[.int .i64 0, .int .i64 0, .int .u8 0] 26)).heap.size = w2.heap.size + 1 := by simp
  rw [s0] at n1
  rw [s1, s0] at n2
  refine ⟨?_, n1.box, n2, b1.alloc (by omega) _, by omega⟩
  exact n0'.box
set_option maxRecDepth 10000 in
set_option maxHeartbeats 2000000 in
theorem step_any (m a : Int) (A : Option Addr) (n k : Nat) (rs : List Rule) (s : St) (r : Int) (hn : rs.length = n) (hs : s.fits) (hmax : n < 2 ^ 40) (w : World) (hR : Rules w w.heap.size A rs) :
    Calls Try.prog 12 #[.agg #[.int .i64 m, .int .u8 a, .slice A n k], s.val, .int .i64 r] w (StepEnd (stepS rs s r) w) := by
  obtain ⟨mo, la, ne⟩ := s
  have hne := hs.2.2
  have HS := Lib.hid hs
  unfold St.val
  dsimp only at hne ⊢
  obtain ⟨q, hq⟩ : ∃ q, w.heap.size = q := ⟨_, rfl⟩
  have HP := Lib.hid (step_pre w m a A n k mo la ne)
  rw [hq] at HP
  have z0 := HP.out.2.2.1.cell 0
  have z1 := HP.out.2.2.1.cell 1
  have z2 := HP.out.2.2.1.cell 2
  have zf0 := HP.out.2.2.1.free 0
  have zf1 := HP.out.2.2.1.free 1
  have zf2 := HP.out.2.2.1.free 2
  simp only [List.getElem?_toArray, List.getElem?_cons_zero, List.getElem?_cons_succ] at z0 z1 z2
  rw [hq] at hR
  have HR := Lib.hid hR
  have HN := Lib.hid hn
  clear hR hn hs
  by_cases hr0 : r < 0
  · have he := stepS_out (rs := rs) (s := ⟨mo, la, ne⟩) (k := r) (Or.inl hr0)
    rw [he]
    go_enter Try.func12, Try.ntmps12
    go_wp2_with fail
    refine bodyPost_ret (v := .tuple #[St.zero.val, .bool false]) (by simp [results, Try.results12, go_sem, z0, z1, z2]; rfl) rfl ⟨rfl, ?_⟩
    first | exact HP.out.2.2.2.1 | (rw [hq]; exact HP.out.2.2.2.1)
  · by_cases hrn : (n : Int) ≤ r
    · have he := stepS_out (rs := rs) (s := ⟨mo, la, ne⟩) (k := r) (Or.inr (by rw [HN.out]; exact hrn))
      rw [he]
      go_enter Try.func12, Try.ntmps12
      go_wp2_with fail
      refine bodyPost_ret (v := .tuple #[St.zero.val, .bool false]) (by simp [results, Try.results12, go_sem, z0, z1, z2]; rfl) rfl ⟨rfl, ?_⟩
      first | exact HP.out.2.2.2.1 | (rw [hq]; exact HP.out.2.2.2.1)
    · obtain ⟨j, rfl⟩ : ∃ j : Nat, r = (j : Int) := ⟨r.toNat, by omega⟩
      have hj : j < rs.length := by have := HN.out; omega
      obtain ⟨x, hx⟩ : ∃ x, rs[j] = x := ⟨_, rfl⟩
      rw [stepS_at (x := x) (by rw [List.getElem?_eq_getElem hj, hx])]
      obtain ⟨b, o, rfl, hb, hc⟩ := HR.out (by omega)
      have hcj := hc j hj
      rw [hx] at hcj
      obtain ⟨A9, k9, d0, d1, d2, d3, d4, d5, hsq, hfit⟩ := hcj.keep hb HP.out.2.2.2.1
      clear hc hcj hx HR
      have HF := Lib.hid hfit
      obtain ⟨r1, h1⟩ : ∃ r, bitB x.l la = r := ⟨_, rfl⟩
      obtain ⟨r2, h2⟩ : ∃ r, mayB x ne = r := ⟨_, rfl⟩
      have H1 := Lib.hid h1
      have H2 := Lib.hid h2
      have hl : 0 ≤ x.l ∧ x.l < 256 := hfit.2.2.2.1
      clear h1 h2 hsq hfit
      have hjn : (j : Int) < (n : Int) := by omega
      have hj0 : (0 : Int) ≤ (j : Int) := by omega
      have hsp : x.f ≠ mo ∨ x.f = mo := by omega
      rcases hsp with hfm | hfm
      · have he : stepR x ⟨mo, la, ne⟩ = none := by unfold stepR; rw [if_pos (Or.inl hfm)]
        have hfb : (x.f != mo) = true := by rw [bne_iff_ne]; exact hfm
        have HZ : Hid (Blk ((((w.alloc (.cells #[.int .i64 m, .int .u8 a, .slice (some ⟨b, o, none⟩) n k] 31)).alloc (.cells #[.int .i64 mo, .int .i64 la, .int .u8 ne] 26)).alloc (.cells #[.int .i64 0, .int .i64 0, .int .u8 0] 26)).alloc (.cells #[.string x.p, .slice A9 x.c.length k9, .int .u8 x.l, .int .u8 x.r, .int .i64 x.f, .int .i64 x.t] 55)) (q + 1 + 1) 26 #[.int .i64 0, .int .i64 0, .int .u8 0]) := HP.out.2.2.1.box
        have HB4 : Hid (Below q w ((((w.alloc (.cells #[.int .i64 m, .int .u8 a, .slice (some ⟨b, o, none⟩) n k] 31)).alloc (.cells #[.int .i64 mo, .int .i64 la, .int .u8 ne] 26)).alloc (.cells #[.int .i64 0, .int .i64 0, .int .u8 0] 26)).alloc (.cells #[.string x.p, .slice A9 x.c.length k9, .int .u8 x.l, .int .u8 x.r, .int .i64 x.f, .int .i64 x.t] 55))) := HP.out.2.2.2.1.alloc (by have := HP.out.2.2.2.2; omega) _
        have y0 := HZ.out.cell 0
        have y1 := HZ.out.cell 1
        have y2 := HZ.out.cell 2
        simp only [List.getElem?_toArray, List.getElem?_cons_zero, List.getElem?_cons_succ] at y0 y1 y2
        rw [he]
        clear hfm
        go_enter Try.func12, Try.ntmps12
        go_wp2_with fail
        refine bodyPost_ret (v := .tuple #[St.zero.val, .bool false]) (by simp [results, Try.results12, go_sem, y0, y1, y2]; rfl) rfl ⟨rfl, ?_⟩
        first | exact HB4.out | (rw [hq]; exact HB4.out)
      · subst hfm
        have hfb : (x.f != x.f) = false := by simp
        have HZ : Hid (Blk ((((w.alloc (.cells #[.int .i64 m, .int .u8 a, .slice (some ⟨b, o, none⟩) n k] 31)).alloc (.cells #[.int .i64 x.f, .int .i64 la, .int .u8 ne] 26)).alloc (.cells #[.int .i64 0, .int .i64 0, .int .u8 0] 26)).alloc (.cells #[.string x.p, .slice A9 x.c.length k9, .int .u8 x.l, .int .u8 x.r, .int .i64 x.f, .int .i64 x.t] 55)) (q + 1 + 1) 26 #[.int .i64 0, .int .i64 0, .int .u8 0]) := HP.out.2.2.1.box
        have HT : Hid (Blk ((((w.alloc (.cells #[.int .i64 m, .int .u8 a, .slice (some ⟨b, o, none⟩) n k] 31)).alloc (.cells #[.int .i64 x.f, .int .i64 la, .int .u8 ne] 26)).alloc (.cells #[.int .i64 0, .int .i64 0, .int .u8 0] 26)).alloc (.cells #[.string x.p, .slice A9 x.c.length k9, .int .u8 x.l, .int .u8 x.r, .int .i64 x.f, .int .i64 x.t] 55)) (q + 1) 26 #[.int .i64 x.f, .int .i64 la, .int .u8 ne]) := HP.out.2.1.box
        have HX : Hid (Blk ((((w.alloc (.cells #[.int .i64 m, .int .u8 a, .slice (some ⟨b, o, none⟩) n k] 31)).alloc (.cells #[.int .i64 x.f, .int .i64 la, .int .u8 ne] 26)).alloc (.cells #[.int .i64 0, .int .i64 0, .int .u8 0] 26)).alloc (.cells #[.string x.p, .slice A9 x.c.length k9, .int .u8 x.l, .int .u8 x.r, .int .i64 x.f, .int .i64 x.t] 55)) (q + 1 + 1 + 1) 55 #[.string x.p, .slice A9 x.c.length k9, .int .u8 x.l, .int .u8 x.r, .int .i64 x.f, .int .i64 x.t]) := by
          have h := Blk.new (((w.alloc (.cells #[.int .i64 m, .int .u8 a, .slice (some ⟨b, o, none⟩) n k] 31)).alloc (.cells #[.int .i64 x.f, .int .i64 la, .int .u8 ne] 26)).alloc (.cells #[.int .i64 0, .int .i64 0, .int .u8 0] 26)) #[.string x.p, .slice A9 x.c.length k9, .int .u8 x.l, .int .u8 x.r, .int .i64 x.f, .int .i64 x.t] 55
          rw [HP.out.2.2.2.2] at h
          exact h
        have HB4 : Hid (Below q w ((((w.alloc (.cells #[.int .i64 m, .int .u8 a, .slice (some ⟨b, o, none⟩) n k] 31)).alloc (.cells #[.int .i64 x.f, .int .i64 la, .int .u8 ne] 26)).alloc (.cells #[.int .i64 0, .int .i64 0, .int .u8 0] 26)).alloc (.cells #[.string x.p, .slice A9 x.c.length k9, .int .u8 x.l, .int .u8 x.r, .int .i64 x.f, .int .i64 x.t] 55))) := HP.out.2.2.2.1.alloc (by have := HP.out.2.2.2.2; omega) _
        have y0 := HZ.out.cell 0
        have y1 := HZ.out.cell 1
        have y2 := HZ.out.cell 2
        simp only [List.getElem?_toArray, List.getElem?_cons_zero, List.getElem?_cons_succ] at y0 y1 y2
        cases r1
        · have he : stepR x ⟨x.f, la, ne⟩ = none := by unfold stepR; rw [if_pos (Or.inr (Or.inl H1.out))]
          rw [he]
          go_enter Try.func12, Try.ntmps12
          go_wp2_with fail
          refine (hasBit_any x.l la hl _).mono ?_
          rintro e w5 ⟨rfl, rfl⟩
          rw [H1.out]
          go_wp2_with fail
          refine bodyPost_ret (v := .tuple #[St.zero.val, .bool false]) (by simp [results, Try.results12, go_sem, y0, y1, y2]; rfl) rfl ⟨rfl, ?_⟩
          first | exact HB4.out | (rw [hq]; exact HB4.out)
        · have x0 := HX.out.cell 0
          have x1 := HX.out.cell 1
          have x2 := HX.out.cell 2
          have x3 := HX.out.cell 3
          have x4 := HX.out.cell 4
          have x5 := HX.out.cell 5
          have t2 := HT.out.cell 2
          simp only [List.getElem?_toArray, List.getElem?_cons_zero, List.getElem?_cons_succ] at x0 x1 x2 x3 x4 x5 t2
          have hs4 : q + 4 = ((((w.alloc (.cells #[.int .i64 m, .int .u8 a, .slice (some ⟨b, o, none⟩) n k] 31)).alloc (.cells #[.int .i64 x.f, .int .i64 la, .int .u8 ne] 26)).alloc (.cells #[.int .i64 0, .int .i64 0, .int .u8 0] 26)).alloc (.cells #[.string x.p, .slice A9 x.c.length k9, .int .u8 x.l, .int .u8 x.r, .int .i64 x.f, .int .i64 x.t] 55)).heap.size := by have := HP.out.2.2.2.2; simp at this ⊢; omega
          obtain ⟨so, hso⟩ : ∃ so, stepR x ⟨x.f, la, ne⟩ = so := ⟨_, rfl⟩
          have HSO := Lib.hid hso
          rw [hso]
          clear hso
          go_enter Try.func12, Try.ntmps12
          go_wp2_with fail
          refine (hasBit_any x.l la hl _).mono ?_
          rintro e w5 ⟨rfl, rfl⟩
          rw [H1.out]
          go_wp2_with fail
          refine (mayFollow_any A9 k9 x ne HF.out hne _).mono ?_
          rintro e w6 ⟨rfl, hb6⟩
          rw [H2.out]
          have HZ6 := Lib.hid (HZ.out.keep hb6 (Blk.lt HZ.out))
          have HT6 := Lib.hid (HT.out.keep hb6 (Blk.lt HT.out))
          have HX6 := Lib.hid (HX.out.keep hb6 (Blk.lt HX.out))
          have HB6 : Hid (Below q w w6) := HB4.out.trans (hb6.mono (by omega))
          clear hb6 hs4 x0 x1 x2 x3 x4 x5 t2 y0 y1 y2 z0 z1 z2 zf0 zf1 zf2 d0 d1 d2 d3 d4 d5 HZ HT HX HB4 HP
          have z0 := HZ6.out.cell 0
          have z1 := HZ6.out.cell 1
          have z2 := HZ6.out.cell 2
          have f0 := HZ6.out.free 0
          have f1 := HZ6.out.free 1
          have f2 := HZ6.out.free 2
          have x0 := HX6.out.cell 0
          have x1 := HX6.out.cell 1
          have x2 := HX6.out.cell 2
          have x3 := HX6.out.cell 3
          have x4 := HX6.out.cell 4
          have x5 := HX6.out.cell 5
          have t0 := HT6.out.cell 0
          have t1 := HT6.out.cell 1
          have t2 := HT6.out.cell 2
          simp only [List.getElem?_toArray, List.getElem?_cons_zero, List.getElem?_cons_succ] at z0 z1 z2 x0 x1 x2 x3 x4 x5 t0 t1 t2
          have hb6 := Blk.lt HZ6.out
          cases r2
          · have he : so = none := by rw [← HSO.out]; unfold stepR; rw [if_pos (Or.inr (Or.inr H2.out))]
            subst he
            have hE := Lib.hid (st_end (q := q + 1 + 1) (w := w) (V := w6) (by rw [hq]; exact HB6.out) (by omega) 0 0 0)
            go_wp2_with fail
            refine bodyPost_ret (v := .tuple #[St.zero.val, .bool false]) (by simp [results, Try.results12, go_sem, z0, z1, z2]; rfl) rfl ⟨rfl, ?_⟩
            exact hE.out
          · have he : so = some (afterS x ⟨x.f, la, ne⟩) := by
              rw [← HSO.out]; unfold stepR
              rw [if_neg (by rintro (h | h | h); exact h rfl; exact absurd (H1.out.symm.trans h) (by decide); exact absurd (H2.out.symm.trans h) (by decide))]
            subst he
            go_wp2_with fail
            refine (after_any A9 k9 x ⟨x.f, la, ne⟩ HF.out HS.out _).mono ?_
            rintro e w7 ⟨rfl, hb7⟩
            have HZ7 := Lib.hid (HZ6.out.keep hb7 hb6)
            have HB7 : Hid (Below q w w7) := HB6.out.trans (hb7.mono (by omega))
            clear hb7 z0 z1 z2 f0 f1 f2
            have z0 := HZ7.out.cell 0
            have z1 := HZ7.out.cell 1
            have z2 := HZ7.out.cell 2
            have f0 := HZ7.out.free 0
            have f1 := HZ7.out.free 1
            have f2 := HZ7.out.free 2
            simp only [List.getElem?_toArray, List.getElem?_cons_zero, List.getElem?_cons_succ] at z0 z1 z2
            obtain ⟨st, hst⟩ : ∃ st, afterS x ⟨x.f, la, ne⟩ = st := ⟨_, rfl⟩
            have HST := Lib.hid hst
            rw [hst]
            clear hst
            obtain ⟨ta, tb, tc⟩ := st
            have hE := Lib.hid (st_end (q := q + 1 + 1) (w := w) (V := w7) (by rw [hq]; exact HB7.out) (by omega) ta tb tc)
            unfold St.val
            dsimp only
            go_wp2_with fail
            refine bodyPost_ret (v := .tuple #[.agg #[.int .i64 ta, .int .i64 tb, .int .u8 tc], .bool true]) (by simp [results, Try.results12, go_sem, z0, z1, z2]) rfl ⟨by simp only [HST.out]; rfl, ?_⟩
            exact hE.out
end Go.Proofs.Ytiedaongfjcbhaa
