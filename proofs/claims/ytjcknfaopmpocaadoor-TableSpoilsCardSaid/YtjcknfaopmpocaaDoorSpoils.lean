/- P2.3: in a valid table in which a rule is replaced by a changed one, that rule is refused if it is not sound, and else the later one of two equal ones: TableSpoils returns true for all arguments. No condition, but what the row's own premises say of the arguments and of the library's variables. -/
import Derived.Test.YtjcknfaopmpocaaDoorSpoil2
import Derived.Test.YtjcknfaopmpocaaDoorFrameT
import Derived.Test.YtjcknfaopmpocaaDoorOpenR
import Derived.Deep.CutBlock
import Derived.Deep.CutRange
import Derived.Deep.LoopGhost
import Derived.Deep.Cut
namespace Go.Proofs.YtjcknfaopmpocaaDoor
open Go.ChangeShapes Go.WideShapes Go.ChangeAt Go.WideMaps Go.WideElems Go.RowKit

theorem RawMs.up {w w' : World} {A : Option Addr} {n : Nat} (h : RawMs w w.heap.size A n) (hb : Below w.heap.size w w') : RawMs w' w'.heap.size A n := fun h0 => by
  obtain ⟨b, o, e, hB, hc⟩ := h h0
  refine ⟨b, o, e, by have := hb.size; omega, fun j hj => ?_⟩
  obtain ⟨PA, np, kp, CA, nc, kc, ps, cs, l, r, u0, u1, d0, d1, d2, d3, d4, d5, hp, hcn, hP, hC, rest⟩ := hc j hj
  have key : ∀ i, w'.cell? ⟨b, i, none⟩ = w.cell? ⟨b, i, none⟩ := fun i => hb.cell (p := ⟨b, i, none⟩) hB
  exact ⟨PA, np, kp, CA, nc, kc, ps, cs, l, r, u0, u1, (key _).trans d0, (key _).trans d1, (key _).trans d2, (key _).trans d3, (key _).trans d4, (key _).trans d5, hp, hcn, hP.up hb, hC.up hb, rest⟩
theorem MadeB.free {w : World} {base lo n k g : Nat} {rs : List Rule} (h : MadeB w base lo (.slice (some ⟨g, 0, none⟩) n k) rs) (j : Nat) : w.frozen? ⟨g, j, none⟩ = false := by
  obtain ⟨A0, k0, vals, e, hown, _⟩ := h
  injection e with e1 e2 e3
  subst e1 e2 e3
  exact hown.frozenAt j
/-- What the scan for an equal rule has found, from the end down to c. -/
def Scan (rs : List Rule) (i : Nat) (z : Rule) (c : Nat) (want : Int) (fine : Bool) : Prop :=
  (fine = true ∧ want = 0 ∧ ∀ k (h : k < rs.length), c ≤ k → k ≠ i → rs[k] ≠ z) ∨ (∃ k, ∃ h : k < rs.length, c ≤ k ∧ k ≠ i ∧ rs[k] = z ∧ fine = false ∧ want = ((max k i : Nat) : Int))
theorem Scan.start (rs : List Rule) (i : Nat) (z : Rule) : Scan rs i z rs.length 0 true := .inl ⟨rfl, rfl, fun k h hk => by omega⟩
theorem Scan.same {rs : List Rule} {i : Nat} {z : Rule} {want : Int} {fine : Bool} (h : Scan rs i z (i + 1) want fine) : Scan rs i z i want fine := by
  rcases h with ⟨h1, h2, h3⟩ | ⟨k, hk, h1, h2, h3⟩
  · exact .inl ⟨h1, h2, fun k hk hc hne => h3 k hk (by omega) hne⟩
  · exact .inr ⟨k, hk, by omega, h2, h3⟩
theorem Scan.other {rs : List Rule} {i c : Nat} {z : Rule} {want : Int} {fine : Bool} (h : Scan rs i z (c + 1) want fine) (hc : c < rs.length) (hne : rs[c] ≠ z) : Scan rs i z c want fine := by
  rcases h with ⟨h1, h2, h3⟩ | ⟨k, hk, h1, h2, h3⟩
  · refine .inl ⟨h1, h2, fun k hk hck hki => ?_⟩
    by_cases hkc : k = c
    · subst hkc; exact hne
    · exact h3 k hk (by omega) hki
  · exact .inr ⟨k, hk, by omega, h2, h3⟩
theorem Scan.found {rs : List Rule} {i c : Nat} {z : Rule} (hc : c < rs.length) (hci : c ≠ i) (he : rs[c] = z) : Scan rs i z c ((max c i : Nat) : Int) false := .inr ⟨c, hc, Nat.le_refl _, hci, he, rfl, rfl⟩
theorem sound_sizes {x : Rule} {m : Int} (h : soundB x m = true) (hm : 1 ≤ m ∧ m ≤ 2) : x.p.size ≤ 4 ∧ (1 ≤ x.c.length ∧ x.c.length ≤ 4) ∧ (0 ≤ x.f ∧ x.f < 8) ∧ (0 ≤ x.t ∧ x.t < 8) := by
  unfold soundB cellsB modeB at h
  simp only [Bool.and_eq_true, decide_eq_true_eq] at h
  obtain ⟨⟨⟨⟨⟨⟨⟨h1, _⟩, h2⟩, _⟩, _⟩, _⟩, h3⟩, h4⟩ := h
  exact ⟨h1, ⟨h2.1.1, h2.1.2⟩, by omega, by omega⟩
def phiSp7 (lo q c2 c6 k2 k6 n i : Nat) (x : Rule) (at_ wh b nn : Int) (Ai : Option Addr) (ki : Nat) (j : Nat) (v : Value) (w' : World) : Prop := match j with
  | 0 => v = .slice (some ⟨c6, 0, none⟩) n k6
  | 1 => v = .int .i64 i
  | 2 => v = .pointer (some ⟨q, 2, none⟩)
  | 3 => v = .slice (some ⟨c2, 0, none⟩) n k2
  | 4 => v = .int .i64 i
  | 5 => v = .pointer (some ⟨c2, i * 6, none⟩)
  | 6 => v = .agg #[.string x.p, .slice Ai x.c.length ki, .int .u8 x.l, .int .u8 x.r, .int .i64 x.f, .int .i64 x.t]
  | 7 => v = .agg #[.int .u8 at_, .int .u8 wh, .int .u8 b, .int .i8 nn]
  | 8 => ∃ y, IsRule lo y v w' ∧ y.fits
  | _ => True
def phiF (kk : Int) (j : Nat) (v : Value) (_w : World) : Prop := match j with
  | 0 => v = .int .i64 kk
  | 1 => v = .int .i64 kk
  | 2 => v = .bool false
  | 3 => v = .bool false
  | _ => True
def phiT (c6 n k6 kk i : Nat) (x1 z : Rule) (A1 A2 : Option Addr) (kx kz : Nat) (j : Nat) (v : Value) (_w : World) : Prop := match j with
  | 0 => v = .int .i64 kk
  | 1 => v = .int .i64 i
  | 2 => v = .bool true
  | 3 => v = .bool true
  | 4 => v = .slice (some ⟨c6, 0, none⟩) n k6
  | 5 => v = .int .i64 kk
  | 6 => v = .pointer (some ⟨c6, kk * 6, none⟩)
  | 7 => v = .agg #[.string x1.p, .slice A1 x1.c.length kx, .int .u8 x1.l, .int .u8 x1.r, .int .i64 x1.f, .int .i64 x1.t]
  | 8 => v = .slice (some ⟨c6, 0, none⟩) n k6
  | 9 => v = .int .i64 i
  | 10 => v = .pointer (some ⟨c6, i * 6, none⟩)
  | 11 => v = .agg #[.string z.p, .slice A2 z.c.length kz, .int .u8 z.l, .int .u8 z.r, .int .i64 z.f, .int .i64 z.t]
  | _ => True
def phiE (c6 n k6 i q : Nat) (m : Int) (z : Rule) (A2 : Option Addr) (kz : Nat) (j : Nat) (v : Value) (_w : World) : Prop := match j with
  | 0 => v = .slice (some ⟨c6, 0, none⟩) n k6
  | 1 => v = .int .i64 i
  | 2 => v = .pointer (some ⟨c6, i * 6, none⟩)
  | 3 => v = .agg #[.string z.p, .slice A2 z.c.length kz, .int .u8 z.l, .int .u8 z.r, .int .i64 z.f, .int .i64 z.t]
  | 4 => v = .pointer (some ⟨q, 0, none⟩)
  | 5 => v = .int .i64 m
  | _ => True
set_option maxRecDepth 20000 in
set_option maxHeartbeats 4000000 in
theorem walk_spoils (A : Option Addr) (n k : Nat) (bs dr at_ wh b nn : Int) (w : World) (hW : RawMs w w.heap.size A n) (hbs : 0 ≤ bs ∧ bs < 256) (hdr : 0 ≤ dr ∧ dr < 256) (hat : 0 ≤ at_ ∧ at_ < 256) (hwh : 0 ≤ wh ∧ wh < 256) (hb : 0 ≤ b ∧ b < 256) (hnn : -128 ≤ nn ∧ nn ≤ 127) (hL : Laid w) :
    Calls Tryd.prog 6 #[.agg #[.int .u8 bs, .int .u8 dr, .slice A n k], .agg #[.int .u8 at_, .int .u8 wh, .int .u8 b, .int .i8 nn]] w fun e w' => e = .returned (.bool true) ∧ Below w.heap.size w w' := by
  obtain ⟨g, hg⟩ : ∃ g, w.heap.size = g := ⟨_, rfl⟩
  have V0A : Hid (Blk ((w.alloc (.cells #[.int .u8 bs, .int .u8 dr, .slice A n k] 41)).alloc (.cells #[.int .u8 at_, .int .u8 wh, .int .u8 b, .int .i8 nn] 44)) g 41 #[.int .u8 bs, .int .u8 dr, .slice A n k]) := by
    unfold Hid; rw [← hg]; exact (Blk.new w _ _).box
  have V0S : Hid (Blk ((w.alloc (.cells #[.int .u8 bs, .int .u8 dr, .slice A n k] 41)).alloc (.cells #[.int .u8 at_, .int .u8 wh, .int .u8 b, .int .i8 nn] 44)) (g + 1) 44 #[.int .u8 at_, .int .u8 wh, .int .u8 b, .int .i8 nn]) := by
    have h := Blk.new (w.alloc (.cells #[.int .u8 bs, .int .u8 dr, .slice A n k] 41)) #[.int .u8 at_, .int .u8 wh, .int .u8 b, .int .i8 nn] 44
    have hs : (w.alloc (.cells #[.int .u8 bs, .int .u8 dr, .slice A n k] 41)).heap.size = g + 1 := by rw [← hg]; simp
    rw [hs] at h; exact h
  have V0B : Hid (Below w.heap.size w ((w.alloc (.cells #[.int .u8 bs, .int .u8 dr, .slice A n k] 41)).alloc (.cells #[.int .u8 at_, .int .u8 wh, .int .u8 b, .int .i8 nn] 44))) := ((Below.refl _ _).alloc (Nat.le_refl _) _).alloc (by simp) _
  have V0L := Lib.hid (hL.keep V0B.out)
  have HW := Lib.hid hW
  clear hL hW
  go_enter Tryd.func6, Tryd.ntmps6
  go_wp2_with fail
  generalize (w.alloc (.cells #[.int .u8 bs, .int .u8 dr, .slice A n k] 41)).alloc (.cells #[.int .u8 at_, .int .u8 wh, .int .u8 b, .int .i8 nn] 44) = V0 at *
  refine (sanity_any _ V0L.out).mono ?_
  rintro e w1 ⟨rfl, hb1⟩
  have A1 := Lib.hid (V0A.out.keep hb1 (Blk.lt V0A.out))
  have S1 := Lib.hid (V0S.out.keep hb1 (Blk.lt V0S.out))
  have B1 : Hid (Below g w w1) := by unfold Hid; rw [← hg]; exact below_next V0B.out hb1
  clear hb1 V0A V0S V0B V0L
  have a0 := A1.out.cell 0
  have a1 := A1.out.cell 1
  have a2 := A1.out.cell 2
  simp only [List.getElem?_toArray, List.getElem?_cons_zero, List.getElem?_cons_succ] at a0 a1 a2
  go_wp2_with fail
  have HW1 : RawMs w1 w1.heap.size A n := HW.out.up (by rw [hg]; exact B1.out)
  refine (made_any w1 A n k bs dr HW1 hbs hdr).mono ?_
  rintro e w2 ⟨m, a, rs, v, rfl, hM, hG, hl10, hm12, ha, hb2⟩
  obtain ⟨A2, k2, rfl, hR2, hk2⟩ := (Made.b hM).rules
  obtain ⟨q, hq⟩ : ∃ q, w2.heap.size = q := ⟨_, rfl⟩
  have hgq : g + 2 ≤ q := by have := Blk.lt S1.out; have := hb2.size; omega
  have S2 := Lib.hid (S1.out.keep hb2 (Blk.lt S1.out))
  have B2 : Hid (Below g w w2) := B1.out.trans (hb2.mono (by have := Blk.lt S1.out; omega))
  have M2 := Lib.hid ((Made.b hM).keep (below_box w2 #[.int .i64 m, .int .u8 a, .slice A2 rs.length k2] 33))
  have T3 : Hid (Blk (w2.alloc (.cells #[.int .i64 m, .int .u8 a, .slice A2 rs.length k2] 33)) q 33 #[.int .i64 m, .int .u8 a, .slice A2 rs.length k2]) := by unfold Hid; rw [← hq]; exact Blk.new _ _ _
  have S3 : Hid (Blk (w2.alloc (.cells #[.int .i64 m, .int .u8 a, .slice A2 rs.length k2] 33)) (g + 1) 44 #[.int .u8 at_, .int .u8 wh, .int .u8 b, .int .i8 nn]) := S2.out.box
  have B3 : Hid (Below g w (w2.alloc (.cells #[.int .i64 m, .int .u8 a, .slice A2 rs.length k2] 33))) := B2.out.alloc (by omega) _
  have HG := Lib.hid hG
  have hl1 : w1.heap.size ≤ q := by have := hb2.size; omega
  have hgl : g ≤ w1.heap.size := by have := Blk.lt S1.out; omega
  clear hb2 hM hR2 A1 S1 B1 S2 B2 a0 a1 a2 hG HW1
  obtain ⟨lo, hlo⟩ : ∃ lo, w1.heap.size = lo := ⟨_, rfl⟩
  simp only [hlo] at M2 hl1 hgl
  go_wp2_with fail
  generalize w2.alloc (.cells #[.int .i64 m, .int .u8 a, .slice A2 rs.length k2] 33) = w3 at *
  obtain ⟨_, hR3, hk3⟩ := M2.out.ru
  refine (valid_lit A2 rs.length k2 m a true rs (valid_iff.2 HG.out) _ rfl hR3 (by omega) hk3 ha).mono ?_
  rintro e w4 ⟨rfl, hb4⟩
  have T4 := Lib.hid (T3.out.keep hb4 (Blk.lt T3.out))
  have S4 := Lib.hid (S3.out.keep hb4 (Blk.lt S3.out))
  have B4 : Hid (Below g w w4) := B3.out.trans (hb4.mono (by have := Blk.lt T3.out; omega))
  have M4 := Lib.hid (M2.out.keep hb4)
  have hn1 : 0 < rs.length := by
    have := HG.out.1
    unfold numsB at this
    simp only [Bool.and_eq_true, decide_eq_true_eq] at this
    omega
  have hq4 := Blk.lt T4.out
  clear hb4 T3 S3 B3 M2 hR3 hk3
  have t0 := T4.out.cell 0
  have t1 := T4.out.cell 1
  have t2 := T4.out.cell 2
  have s0 := S4.out.cell 0
  have s1 := S4.out.cell 1
  have s2 := S4.out.cell 2
  have s3 := S4.out.cell 3
  simp only [List.getElem?_toArray, List.getElem?_cons_zero, List.getElem?_cons_succ] at t0 t1 t2 s0 s1 s2 s3
  obtain ⟨i, hi, hin⟩ : ∃ i : Nat, at_ % (rs.length : Int) = (i : Int) ∧ i < rs.length := ⟨(at_ % (rs.length : Int)).toNat, by have := Int.emod_nonneg at_ (b := (rs.length : Int)) (by omega); omega, by have := Int.emod_lt_of_pos at_ (b := (rs.length : Int)) (by omega); have := Int.emod_nonneg at_ (b := (rs.length : Int)) (by omega); omega⟩
  have hn0 : (rs.length : Int) ≠ 0 := by omega
  have hn00 : ((rs.length : Int) == 0) = false := beq_eq_false_iff_ne.2 hn0
  have htm : at_.tmod (rs.length : Int) = (i : Int) := by rw [Int.tmod_eq_emod_of_nonneg hat.1]; exact hi
  obtain ⟨c2, _, _, rfl, hc2lo, hc2lt, _⟩ := M4.out.at_ hn1
  obtain ⟨p, hp⟩ : ∃ p, w4.heap.size = p := ⟨_, rfl⟩
  have ME : Hid (MadeB (w4.alloc (.cells #[] 36)) w4.heap.size lo (.slice (some ⟨w4.heap.size, 0, none⟩) 0 0) []) := MadeB.empty w4 lo
  rw [hp] at ME
  have M5 : Hid (MadeB (w4.alloc (.cells #[] 36)) lo lo (.slice (some ⟨c2, 0, none⟩) rs.length k2) rs) := M4.out.keep (below_box _ _ _)
  have T5 : Hid (Blk (w4.alloc (.cells #[] 36)) q 33 #[.int .i64 m, .int .u8 a, .slice (some ⟨c2, 0, none⟩) rs.length k2]) := T4.out.box
  have S5 : Hid (Blk (w4.alloc (.cells #[] 36)) (g + 1) 44 #[.int .u8 at_, .int .u8 wh, .int .u8 b, .int .i8 nn]) := S4.out.box
  have B5 : Hid (Below g w (w4.alloc (.cells #[] 36))) := B4.out.alloc (by omega) _
  have hp5 : p < (w4.alloc (.cells #[] 36)).heap.size := by rw [← hp]; simp
  have t2a := T5.out.cell 2
  simp only [List.getElem?_toArray, List.getElem?_cons_zero, List.getElem?_cons_succ] at t2a
  go_wp2_with (at_builtin; refine wpList_append_rules rfl _ _ rfl p lo lo _ _ [] rs rfl ME.out rfl M5.out (by show 0 + rs.length ≤ 1000; omega) hn1 (by omega) ?_)
  intro A6 k6 w6 hM6 hO6
  try simp only [List.length_nil, Nat.zero_add, List.nil_append] at hM6
  try simp only [List.length_nil, Nat.zero_add, List.nil_append]
  obtain ⟨c6, _, _, rfl, hc6, hc6lt, _⟩ := hM6.at_ hn1
  have T6 := Lib.hid (hO6.low T5.out (by omega))
  have S6 := Lib.hid (hO6.low S5.out (by omega))
  have B6 : Hid (Below g w w6) := B5.out.trans ((hO6.below (by omega)).mono (by omega))
  have M6 : Hid (MadeB w6 lo lo (.slice (some ⟨c2, 0, none⟩) rs.length k2) rs) := by
    obtain ⟨A0, k0, vals, e, ho, hr⟩ := M5.out
    obtain ⟨row, hg6, hr6⟩ := hO6
    injection e with e1 e2 e3
    subst e1 e3
    refine ⟨_, _, vals, rfl, World.ownsRow.kept ho hg6 (Or.inr ?_), hr.move fun b9 cur9 hB9 => hg6.block b9 (Blk.lt hB9) ?_⟩
    · intro e
      have := (hr6 c2 (by rw [← e]; rfl)).1
      omega
    · intro e
      obtain ⟨_, cur, hc⟩ := hr6 b9 e.symm
      exact Blk.type_ne hc hB9 (by decide) rfl
  have L6 := Lib.hid hM6
  have hsz6 := hO6.size
  clear ME M5 T5 S5 B5 hO6 hM6 T4 S4 B4 M4 t2a t0 t1 t2 s0 s1 s2 s3
  go_wp2_with fail
  have t2 := T6.out.cell 2
  have s0 := S6.out.cell 0
  have s1 := S6.out.cell 1
  have s2 := S6.out.cell 2
  have s3 := S6.out.cell 3
  simp only [List.getElem?_toArray, List.getElem?_cons_zero, List.getElem?_cons_succ] at t2 s0 s1 s2 s3
  obtain ⟨b9, Ai, ki, hbe, hb9lo, hb9, d0, d1, d2, d3, d4, d5, hsq, hfit⟩ := M6.out.at_ hin
  obtain rfl : c2 = b9 := by injection hbe with hbe; injection hbe
  have hq6 := Blk.lt T6.out
  have hg6 := Blk.lt S6.out
  have hii : (i : Int) < (rs.length : Int) := by omega
  have hsd : soundB rs[i] m = true := HG.out.2.2 _ (List.getElem_mem hin)
  obtain ⟨x, hx⟩ : ∃ x, rs[i] = x := ⟨_, rfl⟩
  rw [hx] at d0 d1 d2 d3 d4 d5 hsq hfit hsd
  have HX := Lib.hid hx
  have HSQ := Lib.hid hsq
  have HFIT := Lib.hid hfit
  have hsz := sound_sizes hsd hm12
  clear hx hsq hfit hbe
  refine wp_region_head 9 1 (by kernel_rfl) (fun y => .agg #[.int .u8 bs, .int .u8 dr, .slice A n k] :: .agg #[.int .u8 at_, .int .u8 wh, .int .u8 b, .int .i8 nn] :: .pointer (some ⟨g, 0, none⟩) :: .pointer (some ⟨g + 1, 0, none⟩) :: .bool false :: .bool true :: .pointer (some ⟨q, 0, none⟩) :: .int .i64 i :: .slice (some ⟨c6, 0, none⟩) rs.length k6 :: undef :: undef :: undef :: undef :: undef :: .bool true :: .agg #[.int .u8 bs, .int .u8 dr, .slice A n k] :: .agg #[.int .i64 m, .int .u8 a, .slice (some ⟨c2, 0, none⟩) rs.length k2] :: .agg #[.int .i64 m, .int .u8 a, .slice (some ⟨c2, 0, none⟩) rs.length k2] :: .bool true :: .bool false :: .pointer (some ⟨g + 1, 0, none⟩) :: .int .u8 at_ :: .int .i64 at_ :: .pointer (some ⟨q, 2, none⟩) :: .slice (some ⟨c2, 0, none⟩) rs.length k2 :: .int .i64 rs.length :: .int .i64 i :: .slice (some ⟨p, 0, none⟩) 0 0 :: .pointer (some ⟨q, 2, none⟩) :: .slice (some ⟨c2, 0, none⟩) rs.length k2 :: .slice (some ⟨c6, 0, none⟩) rs.length k6 :: y 0 :: y 1 :: y 2 :: y 3 :: y 4 :: y 5 :: y 6 :: y 7 :: y 8 :: undef :: undef :: undef :: undef :: undef :: undef :: undef :: undef :: undef :: undef :: undef :: undef :: undef :: undef :: undef :: undef :: undef :: undef :: undef :: undef :: undef :: undef :: undef :: undef :: undef :: undef :: undef :: undef :: undef :: undef :: undef :: undef :: undef :: undef :: undef :: undef :: undef :: undef :: undef :: undef :: undef :: undef :: undef :: undef :: undef :: undef :: undef :: undef :: undef :: undef :: undef :: undef :: undef :: undef :: undef :: undef :: undef :: undef :: undef :: undef :: [])
    (fun _ w' => Below w6.heap.size w6 w') (phiSp7 lo q c2 c6 k2 k6 rs.length i x at_ wh b nn Ai ki) (fun _ => undef)
    (by kernel_rfl) (by kernel_rfl) (by kernel_rfl) (by kernel_rfl) ?_ (Below.refl _ _).drew [0, 1, 2, 3, 4, 5, 6, 7, 8] (by kernel_rfl) ?_ ?_
  · intro i v w1 w2 h hb
    unfold phiSp7 at h ⊢
    split at h <;> first | exact h | (obtain ⟨y, hy, hyf⟩ := h; exact ⟨y, IsRule.keep hy hb, hyf⟩)
  · refine allCons ?_ (allCons ?_ (allCons ?_ (allCons ?_ (allCons ?_ (allCons ?_ (allCons ?_ (allCons ?_ (allCons ?_ allNil))))))))
    all_goals intro y w7 K hS hd hK
    · refine wpOp_step rfl (fun K2 hK2 => ?_)
      go_simp
      exact hK2 _ _ (hK _ _ hS rfl (Below.refl _ _))
    · refine wpOp_step rfl (fun K2 hK2 => ?_)
      go_simp
      exact hK2 _ _ (hK _ _ hS rfl (Below.refl _ _))
    · refine wpOp_step rfl (fun K2 hK2 => ?_)
      go_simp
      exact hK2 _ _ (hK _ _ hS rfl (Below.refl _ _))
    · have e2 : y 2 = _ := hd 2 rfl
      obtain ⟨y, rfl⟩ := upd_at (y := y) (i := 2) e2
      dsimp [upd]
      have c := (hS.cell (p := ⟨q, 2, none⟩) (by show q < _; omega)).trans t2
      refine wpOp_step rfl (fun K2 hK2 => ?_)
      go_simp
      exact hK2 _ _ (hK _ _ hS rfl (Below.refl _ _))
    · refine wpOp_step rfl (fun K2 hK2 => ?_)
      go_simp
      exact hK2 _ _ (hK _ _ hS rfl (Below.refl _ _))
    · have e3 : y 3 = _ := hd 3 rfl
      have e4 : y 4 = _ := hd 4 rfl
      obtain ⟨y, rfl⟩ := upd_at (y := y) (i := 3) e3
      obtain ⟨y, rfl⟩ := upd_at (y := y) (i := 4) e4
      dsimp [upd]
      refine wpOp_step rfl (fun K2 hK2 => ?_)
      go_simp
      exact hK2 _ _ (hK _ _ hS rfl (Below.refl _ _))
    · have e5 : y 5 = _ := hd 5 rfl
      obtain ⟨y, rfl⟩ := upd_at (y := y) (i := 5) e5
      dsimp [upd]
      have cc0 := (hS.cell (p := ⟨c2, i * 6, none⟩) (by show c2 < _; omega)).trans d0
      have cc1 := (hS.cell (p := ⟨c2, i * 6 + 1, none⟩) (by show c2 < _; omega)).trans d1
      have cc2 := (hS.cell (p := ⟨c2, i * 6 + 2, none⟩) (by show c2 < _; omega)).trans d2
      have cc3 := (hS.cell (p := ⟨c2, i * 6 + 3, none⟩) (by show c2 < _; omega)).trans d3
      have cc4 := (hS.cell (p := ⟨c2, i * 6 + 4, none⟩) (by show c2 < _; omega)).trans d4
      have cc5 := (hS.cell (p := ⟨c2, i * 6 + 5, none⟩) (by show c2 < _; omega)).trans d5
      refine wpOp_step rfl (fun K2 hK2 => ?_)
      go_simp
      exact hK2 _ _ (hK _ _ hS rfl (Below.refl _ _))
    · have cc0 := (hS.cell (p := ⟨g + 1, 0, none⟩) (by show g + 1 < _; omega)).trans s0
      have cc1 := (hS.cell (p := ⟨g + 1, 1, none⟩) (by show g + 1 < _; omega)).trans s1
      have cc2 := (hS.cell (p := ⟨g + 1, 2, none⟩) (by show g + 1 < _; omega)).trans s2
      have cc3 := (hS.cell (p := ⟨g + 1, 3, none⟩) (by show g + 1 < _; omega)).trans s3
      refine wpOp_step rfl (fun K2 hK2 => ?_)
      go_simp
      exact hK2 _ _ (hK _ _ hS rfl (Below.refl _ _))
    · have e6 : y 6 = _ := hd 6 rfl
      have e7 : y 7 = _ := hd 7 rfl
      obtain ⟨y, rfl⟩ := upd_at (y := y) (i := 6) e6
      obtain ⟨y, rfl⟩ := upd_at (y := y) (i := 7) e7
      dsimp [upd]
      refine wpOp_step rfl (fun K2 hK2 => ?_)
      go_simp
      refine (spoilt_any _ lo Ai ki x at_ wh b nn (HSQ.out.1.below hS) hsz.1 hsz.2.1 HSQ.out.2 HFIT.out hsz.2.2.1 hsz.2.2.2 (by have := hS.size; omega) hwh hb hnn).mono ?_
      rintro e' w8 ⟨v8, z, rfl, hz, hzf, hb8⟩
      exact hK2 _ _ (hK _ _ (below_next hS hb8) ⟨z, hz, hzf⟩ hb8)
  · intro y w7 f hS hd
    have e0 : y 0 = _ := hd 0 (by decide)
    have e1 : y 1 = _ := hd 1 (by decide)
    obtain ⟨z, ⟨Az, kz, e8, hz⟩, hzf⟩ := hd 8 (by decide)
    clear hd
    have hsz7 := hS.size
    have L7 := L6.out.keep hS
    have T7 := T6.out.keep hS (by omega)
    have S7 := S6.out.keep hS (by omega)
    have B7 : Below g w w7 := B6.out.trans (hS.mono (by omega))
    have M7 := M6.out.keep hS
    have hput := L7.put (A := Az) (kc := kz) hin hz hzf
    obtain ⟨bb, _, _, hbb, _, hb6, u0, u1, u2, u3, u4, u5, _, _⟩ := L7.at_ hin
    obtain rfl : c6 = bb := by injection hbb with hbb; injection hbb
    have v0 := L7.free (i * 6)
    have v1 := L7.free (i * 6 + 1)
    have v2 := L7.free (i * 6 + 2)
    have v3 := L7.free (i * 6 + 3)
    have v4 := L7.free (i * 6 + 4)
    have v5 := L7.free (i * 6 + 5)
    obtain ⟨y, rfl⟩ := upd_at e0
    obtain ⟨y, rfl⟩ := upd_at (y := y) (i := 1) e1
    obtain ⟨y, rfl⟩ := upd_at (y := y) (i := 8) e8
    dsimp [upd]
    refine wpAny_one (i := 9) (by kernel_rfl) ?_
    refine wpOp_step rfl (fun K2 hK2 => ?_)
    go_simp
    refine hK2 _ _ ?_
    clear hK2 K2
    refine wpAny_one (i := 10) (by kernel_rfl) ?_
    refine wpOp_step rfl (fun K2 hK2 => ?_)
    go_simp
    refine hK2 _ _ ?_
    clear hK2 K2
    refine wpAny_done (by kernel_rfl) ?_ _
    generalize y 2 = t33
    generalize y 3 = t34
    generalize y 4 = t35
    generalize y 5 = t36
    generalize y 6 = t37
    generalize y 7 = t38
    have L8 := Lib.hid hput.1
    have hgr := hput.2
    have T8 := Lib.hid ((hgr.block q (Blk.lt T7) (by intro e; injection e with e; omega)).trans T7)
    have B8 := Lib.hid (B7.grown hgr (by omega) (fun j hj => by injection hj with hj; omega))
    have hsz8 := hgr.size
    generalize (((((w7.setCell ⟨c6, i * 6, none⟩ (.string z.p)).setCell ⟨c6, i * 6 + 1, none⟩ (.slice Az z.c.length kz)).setCell ⟨c6, i * 6 + 2, none⟩ (.int .u8 z.l)).setCell ⟨c6, i * 6 + 3, none⟩ (.int .u8 z.r)).setCell ⟨c6, i * 6 + 4, none⟩ (.int .i64 z.f)).setCell ⟨c6, i * 6 + 5, none⟩ (.int .i64 z.t) = w8 at *
    clear e0 e1 e8 hput hgr u0 u1 u2 u3 u4 u5 v0 v1 v2 v3 v4 v5 L7 T7 S7 B7 M7 hz hbb d0 d1 d2 d3 d4 d5 s0 s1 s2 s3 t2 hS T6 S6 B6 M6 L6
    have HXI := HX.out
    go_wp2_with fail
    have hlen : (rs.set i z).length = rs.length := List.length_set
    go_loopg [9, 10, 11] rs.length (fun gk s9 s10 s11 wx => ∃ (c : Nat) (want : Int) (fine : Bool), c ≤ rs.length ∧ gk = c ∧ s9 = .int .i64 want ∧ s10 = .bool fine ∧ s11 = .int .i64 ((c : Int) - 1) ∧ (0 ≤ want ∧ want < 1000) ∧ Scan rs i z c want fine ∧ Below w8.heap.size w8 wx)
    case atStart => exact ⟨rs.length, 0, true, Nat.le_refl _, rfl, rfl, rfl, rfl, ⟨by omega, by omega⟩, Scan.start rs i z, Below.refl _ _⟩
    case round =>
      obtain ⟨c, want, fine, hcn, hgk, rfl, rfl, rfl, hwb, hsc, hbx⟩ := hrel
      have HSC := Lib.hid hsc
      have HBX := Lib.hid hbx
      have L9 := Lib.hid (L8.out.keep hbx)
      have T9 := Lib.hid (Blk.keep T8.out hbx (Blk.lt T8.out))
      have B9 := Lib.hid (B8.out.trans (hbx.mono (by omega)))
      have hszr := hbx.size
      have hq9 := Blk.lt T9.out
      clear hsc hbx
      have L9' : MadeB wr p lo (.slice (some ⟨c6, 0, none⟩) (rs.set i z).length k6) (rs.set i z) := by rw [hlen]; exact L9.out
      obtain ⟨bz, A2, kz2, hbz, _, hbzl, z0, z1, z2, z3, z4, z5, hz2, hzf2⟩ := L9'.at_ (j := i) (by omega)
      obtain rfl : c6 = bz := by injection hbz with hbz; injection hbz
      have hzi : (rs.set i z)[i]'(by omega) = z := by simp
      rw [hzi] at z0 z1 z2 z3 z4 z5 hz2 hzf2
      have HZ2 := Lib.hid hz2
      have HZF := Lib.hid hzf2
      clear hz2 hzf2 hbz
      by_cases hc0 : c = 0
      · subst hc0
        have hneg : ¬ (0 : Int) ≤ ((0 : Nat) : Int) - 1 := by omega
        have hneg2 : ((0 : Nat) : Int) - 1 = -1 := by omega
        rw [hneg2]
        go_upto_region 14 with fail
        have t0 := T9.out.cell 0
        simp only [List.getElem?_toArray, List.getElem?_cons_zero] at t0
        refine wp_region_head 6 1 (by kernel_rfl) (fun y => .agg #[.int .u8 bs, .int .u8 dr, .slice A n k] :: .agg #[.int .u8 at_, .int .u8 wh, .int .u8 b, .int .i8 nn] :: .pointer (some ⟨g, 0, none⟩) :: .pointer (some ⟨g + 1, 0, none⟩) :: .bool false :: .bool true :: .pointer (some ⟨q, 0, none⟩) :: .int .i64 i :: .slice (some ⟨c6, 0, none⟩) rs.length k6 :: .int .i64 want :: .bool fine :: .int .i64 (-1) :: undef :: undef :: .bool true :: .agg #[.int .u8 bs, .int .u8 dr, .slice A n k] :: .agg #[.int .i64 m, .int .u8 a, .slice (some ⟨c2, 0, none⟩) rs.length k2] :: .agg #[.int .i64 m, .int .u8 a, .slice (some ⟨c2, 0, none⟩) rs.length k2] :: .bool true :: .bool false :: .pointer (some ⟨g + 1, 0, none⟩) :: .int .u8 at_ :: .int .i64 at_ :: .pointer (some ⟨q, 2, none⟩) :: .slice (some ⟨c2, 0, none⟩) rs.length k2 :: .int .i64 rs.length :: .int .i64 i :: .slice (some ⟨p, 0, none⟩) 0 0 :: .pointer (some ⟨q, 2, none⟩) :: .slice (some ⟨c2, 0, none⟩) rs.length k2 :: .slice (some ⟨c6, 0, none⟩) rs.length k6 :: .slice (some ⟨c6, 0, none⟩) rs.length k6 :: .int .i64 i :: t33 :: t34 :: t35 :: t36 :: t37 :: t38 :: .agg #[.string z.p, .slice Az z.c.length kz, .int .u8 z.l, .int .u8 z.r, .int .i64 z.f, .int .i64 z.t] :: .pointer (some ⟨c6, i * 6, none⟩) :: .slice (some ⟨c6, 0, none⟩) rs.length k6 :: .int .i64 rs.length :: .int .i64 ((rs.length : Int) - 1) :: .int .i64 (-1) :: .bool false :: u46 :: u47 :: u48 :: u49 :: u50 :: u51 :: u52 :: u53 :: u54 :: u55 :: u56 :: u57 :: u58 :: u59 :: u60 :: u61 :: u62 :: u63 :: u64 :: y 0 :: y 1 :: y 2 :: y 3 :: y 4 :: y 5 :: undef :: undef :: undef :: undef :: undef :: undef :: undef :: undef :: undef :: undef :: undef :: undef :: undef :: undef :: undef :: undef :: undef :: undef :: undef :: undef :: undef :: undef :: undef :: undef :: undef :: undef :: undef :: undef :: undef :: [])
          (fun _ w' => Below wr.heap.size wr w') (phiE c6 rs.length k6 i q m z A2 kz2) (fun j => [undef, undef, undef, undef, undef, undef].getD j undef)
          (by kernel_rfl) (by kernel_rfl) (by kernel_rfl) (by kernel_rfl) ?_ (Below.refl _ _).drew [0, 1, 2, 3, 4, 5] (by kernel_rfl) ?_ ?_
        · intro j v w1 w2 h hb
          exact h
        · refine allCons ?_ (allCons ?_ (allCons ?_ (allCons ?_ (allCons ?_ (allCons ?_ (allNil))))))
          all_goals intro y w10 K hS hd hK
          · refine wpOp_step rfl (fun K2 hK2 => ?_)
            go_simp
            exact hK2 _ _ (hK _ _ hS rfl (Below.refl _ _))
          · refine wpOp_step rfl (fun K2 hK2 => ?_)
            go_simp
            exact hK2 _ _ (hK _ _ hS rfl (Below.refl _ _))
          · have e0 : y 0 = _ := hd 0 rfl
            have e1 : y 1 = _ := hd 1 rfl
            obtain ⟨y, rfl⟩ := upd_at (y := y) (i := 0) e0
            obtain ⟨y, rfl⟩ := upd_at (y := y) (i := 1) e1
            dsimp [upd]
            refine wpOp_step rfl (fun K2 hK2 => ?_)
            go_simp
            exact hK2 _ _ (hK _ _ hS rfl (Below.refl _ _))
          · have e2 : y 2 = _ := hd 2 rfl
            obtain ⟨y, rfl⟩ := upd_at (y := y) (i := 2) e2
            dsimp [upd]
            have cc0 := (hS.cell (p := ⟨c6, i * 6, none⟩) (by show c6 < _; omega)).trans z0
            have cc1 := (hS.cell (p := ⟨c6, i * 6 + 1, none⟩) (by show c6 < _; omega)).trans z1
            have cc2 := (hS.cell (p := ⟨c6, i * 6 + 2, none⟩) (by show c6 < _; omega)).trans z2
            have cc3 := (hS.cell (p := ⟨c6, i * 6 + 3, none⟩) (by show c6 < _; omega)).trans z3
            have cc4 := (hS.cell (p := ⟨c6, i * 6 + 4, none⟩) (by show c6 < _; omega)).trans z4
            have cc5 := (hS.cell (p := ⟨c6, i * 6 + 5, none⟩) (by show c6 < _; omega)).trans z5
            refine wpOp_step rfl (fun K2 hK2 => ?_)
            go_simp
            exact hK2 _ _ (hK _ _ hS rfl (Below.refl _ _))
          · refine wpOp_step rfl (fun K2 hK2 => ?_)
            go_simp
            exact hK2 _ _ (hK _ _ hS rfl (Below.refl _ _))
          · have e4 : y 4 = _ := hd 4 rfl
            obtain ⟨y, rfl⟩ := upd_at (y := y) (i := 4) e4
            dsimp [upd]
            have cc := (hS.cell (p := ⟨q, 0, none⟩) (by show q < _; omega)).trans t0
            refine wpOp_step rfl (fun K2 hK2 => ?_)
            go_simp
            exact hK2 _ _ (hK _ _ hS rfl (Below.refl _ _))
        · intro y w10 f hS hd
          have e3 : y 3 = _ := hd 3 (by decide)
          have e5 : y 5 = _ := hd 5 (by decide)
          clear hd
          obtain ⟨y, rfl⟩ := upd_at (y := y) (i := 3) e3
          obtain ⟨y, rfl⟩ := upd_at (y := y) (i := 5) e5
          dsimp [upd]
          refine wpAny_one (i := 6) (by kernel_rfl) ?_
          refine wpOp_step rfl (fun K2 hK2 => ?_)
          go_simp
          refine (rSound_any A2 z.c.length kz2 z m _ rfl (HZ2.out.1.below hS).seq HZF.out).mono ?_
          rintro e' w11 ⟨rfl, hb11⟩
          have T11 := Lib.hid (Blk.keep T9.out (below_next hS hb11) (by omega))
          have L11 := Lib.hid (L9.out.keep (below_next hS hb11))
          have B11 := Lib.hid (B9.out.trans ((below_next hS hb11).mono (by omega)))
          refine hK2 _ _ ?_
          clear hK2 K2
          refine wpAny_one (i := 7) (by kernel_rfl) ?_
          refine wpOp_step rfl (fun K2 hK2 => ?_)
          go_simp
          refine hK2 _ _ ?_
          clear hK2 K2
          refine wpAny_done (by kernel_rfl) ?_ _
          clear e3 e5 hS hb11 t0
          have t0 := T11.out.cell 0
          have t1 := T11.out.cell 1
          have t2 := T11.out.cell 2
          have tf2 := T11.out.free 2
          have T12 : Hid (Blk (w11.setCell ⟨q, 2, none⟩ (.slice (some ⟨c6, 0, none⟩) rs.length k6)) q 33 #[.int .i64 m, .int .u8 a, (.slice (some ⟨c6, 0, none⟩) rs.length k6)]) := T11.out.set 2 _
          have L12 : Hid (MadeB (w11.setCell ⟨q, 2, none⟩ (.slice (some ⟨c6, 0, none⟩) rs.length k6)) p lo (.slice (some ⟨c6, 0, none⟩) rs.length k6) (rs.set i z)) := L11.out.set T11.out (by decide) _
          have B12 : Hid (Below g w (w11.setCell ⟨q, 2, none⟩ (.slice (some ⟨c6, 0, none⟩) rs.length k6))) := B11.out.setCell (by show g ≤ q; omega) _
          obtain ⟨hx12, hR12, hk12⟩ := L12.out.ru
          clear hx12
          have HR12 := Lib.hid hR12
          have r0 := T12.out.cell 0
          have r1 := T12.out.cell 1
          have r2 := T12.out.cell 2
          simp only [List.getElem?_toArray, List.getElem?_cons_zero, List.getElem?_cons_succ] at t0 t1 t2 r0 r1 r2
          clear hR12
          obtain ⟨sb, hsb⟩ : ∃ sb, soundB z m = sb := ⟨_, rfl⟩
          rw [hsb]
          have HSB := Lib.hid hsb
          clear hsb
          cases sb
          · have hck := Lib.hid (spoil_unsound HG.out hin HSB.out)
            go_wp2_with fail
            refine (check_lit (some ⟨c6, 0, none⟩) rs.length k6 m a (i : Nat) 20 (rs.set i z) hck.out _ hlen HR12.out (by omega) hk12 ha).mono ?_
            rintro e' w13 ⟨rfl, hb13⟩
            have B13 := Lib.hid (B12.out.trans (hb13.mono (by have := Blk.lt T12.out; omega)))
            clear hb13
            go_wp2
            go_ret
            exact ⟨rfl, by first | exact B13.out | (rw [hg]; exact B13.out)⟩
          · rcases HSC.out with ⟨rfl, rfl, hno⟩ | ⟨kq, hkq, _, hne, he, rfl, rfl⟩
            · have hck := Lib.hid (spoil_fine HG.out hin HSB.out (fun kk hkk hki => hno kk hkk (Nat.zero_le _) hki))
              go_wp2_with fail
              refine (check_lit (some ⟨c6, 0, none⟩) rs.length k6 m a 0 0 (rs.set i z) hck.out _ hlen HR12.out (by omega) hk12 ha).mono ?_
              rintro e' w13 ⟨rfl, hb13⟩
              have B13 := Lib.hid (B12.out.trans (hb13.mono (by have := Blk.lt T12.out; omega)))
              clear hb13
              go_wp2
              go_ret
              exact ⟨rfl, by first | exact B13.out | (rw [hg]; exact B13.out)⟩
            · have hck := Lib.hid (spoil_twice HG.out hin HSB.out hkq hne he)
              go_wp2_with fail
              refine (check_lit (some ⟨c6, 0, none⟩) rs.length k6 m a (max kq i : Nat) 20 (rs.set i z) hck.out _ hlen HR12.out (by omega) hk12 ha).mono ?_
              rintro e' w13 ⟨rfl, hb13⟩
              have B13 := Lib.hid (B12.out.trans (hb13.mono (by have := Blk.lt T12.out; omega)))
              clear hb13
              go_wp2
              go_ret
              exact ⟨rfl, by first | exact B13.out | (rw [hg]; exact B13.out)⟩
      · obtain ⟨kk, rfl⟩ : ∃ kk, c = kk + 1 := ⟨c - 1, by omega⟩
        have hk1 : (((kk + 1 : Nat) : Int) - 1) = (kk : Int) := by omega
        have hk0 : (0 : Int) ≤ (kk : Int) := by omega
        have hkn : (kk : Int) < (rs.length : Int) := by omega
        rw [hk1]
        by_cases hki : kk = i
        · subst hki
          have hbn : ((kk : Int) != (kk : Int)) = false := by simp
          go_upto_region 12 with fail
          refine wp_region_head 12 1 (by kernel_rfl) (fun y => .agg #[.int .u8 bs, .int .u8 dr, .slice A n k] :: .agg #[.int .u8 at_, .int .u8 wh, .int .u8 b, .int .i8 nn] :: .pointer (some ⟨g, 0, none⟩) :: .pointer (some ⟨g + 1, 0, none⟩) :: .bool false :: .bool true :: .pointer (some ⟨q, 0, none⟩) :: .int .i64 kk :: .slice (some ⟨c6, 0, none⟩) rs.length k6 :: .int .i64 want :: .bool fine :: .int .i64 kk :: undef :: undef :: .bool true :: .agg #[.int .u8 bs, .int .u8 dr, .slice A n k] :: .agg #[.int .i64 m, .int .u8 a, .slice (some ⟨c2, 0, none⟩) rs.length k2] :: .agg #[.int .i64 m, .int .u8 a, .slice (some ⟨c2, 0, none⟩) rs.length k2] :: .bool true :: .bool false :: .pointer (some ⟨g + 1, 0, none⟩) :: .int .u8 at_ :: .int .i64 at_ :: .pointer (some ⟨q, 2, none⟩) :: .slice (some ⟨c2, 0, none⟩) rs.length k2 :: .int .i64 rs.length :: .int .i64 kk :: .slice (some ⟨p, 0, none⟩) 0 0 :: .pointer (some ⟨q, 2, none⟩) :: .slice (some ⟨c2, 0, none⟩) rs.length k2 :: .slice (some ⟨c6, 0, none⟩) rs.length k6 :: .slice (some ⟨c6, 0, none⟩) rs.length k6 :: .int .i64 kk :: t33 :: t34 :: t35 :: t36 :: t37 :: t38 :: .agg #[.string z.p, .slice Az z.c.length kz, .int .u8 z.l, .int .u8 z.r, .int .i64 z.f, .int .i64 z.t] :: .pointer (some ⟨c6, kk * 6, none⟩) :: .slice (some ⟨c6, 0, none⟩) rs.length k6 :: .int .i64 rs.length :: .int .i64 ((rs.length : Int) - 1) :: .int .i64 kk :: .bool true :: u46 :: u47 :: y 0 :: y 1 :: y 2 :: y 3 :: y 4 :: y 5 :: y 6 :: y 7 :: y 8 :: y 9 :: y 10 :: y 11 :: u60 :: u61 :: u62 :: u63 :: u64 :: undef :: undef :: undef :: undef :: undef :: undef :: undef :: undef :: undef :: undef :: undef :: undef :: undef :: undef :: undef :: undef :: undef :: undef :: undef :: undef :: undef :: undef :: undef :: undef :: undef :: undef :: undef :: undef :: undef :: undef :: undef :: undef :: undef :: undef :: undef :: [])
            (fun _ w' => Below wr.heap.size wr w') (phiF kk) (fun j => [u48, u49, u50, u51, u52, u53, u54, u55, u56, u57, u58, u59].getD j undef)
            (by kernel_rfl) (by kernel_rfl) (by kernel_rfl) (by kernel_rfl) ?_ (Below.refl _ _).drew [0, 1, 2, 3, 4, 5, 6, 7, 8, 9, 10, 11] (by kernel_rfl) ?_ ?_
          · intro j v w1 w2 h hb
            exact h
          · refine allCons ?_ (allCons ?_ (allCons ?_ (allCons ?_ (allCons ?_ (allCons ?_ (allCons ?_ (allCons ?_ (allCons ?_ (allCons ?_ (allCons ?_ (allCons ?_ (allNil))))))))))))
            all_goals intro y w10 K hS hd hK
            · refine wpOp_step rfl (fun K2 hK2 => ?_)
              go_simp
              exact hK2 _ _ (hK _ _ hS rfl (Below.refl _ _))
            · refine wpOp_step rfl (fun K2 hK2 => ?_)
              go_simp
              exact hK2 _ _ (hK _ _ hS rfl (Below.refl _ _))
            · have e0 : y 0 = _ := hd 0 rfl
              have e1 : y 1 = _ := hd 1 rfl
              obtain ⟨y, rfl⟩ := upd_at (y := y) (i := 0) e0
              obtain ⟨y, rfl⟩ := upd_at (y := y) (i := 1) e1
              dsimp [upd]
              refine wpOp_step rfl (fun K2 hK2 => ?_)
              go_simp
              exact hK2 _ _ (hK _ _ hS rfl (Below.refl _ _))
            · have e2 : y 2 = _ := hd 2 rfl
              obtain ⟨y, rfl⟩ := upd_at (y := y) (i := 2) e2
              dsimp [upd]
              refine wpOp_step rfl (fun K2 hK2 => ?_)
              go_simp
              exact hK2 _ _ (hK _ _ hS rfl (Below.refl _ _))
            · have e3 : y 3 = _ := hd 3 rfl
              obtain ⟨y, rfl⟩ := upd_at (y := y) (i := 3) e3
              dsimp [upd]
              refine wpOp_step rfl (fun K2 hK2 => ?_)
              go_simp
              exact hK2 _ _ (hK _ _ hS trivial (Below.refl _ _))
            · have e3 : y 3 = _ := hd 3 rfl
              obtain ⟨y, rfl⟩ := upd_at (y := y) (i := 3) e3
              dsimp [upd]
              refine wpOp_step rfl (fun K2 hK2 => ?_)
              go_simp
              exact hK2 _ _ (hK _ _ hS trivial (Below.refl _ _))
            · have e3 : y 3 = _ := hd 3 rfl
              obtain ⟨y, rfl⟩ := upd_at (y := y) (i := 3) e3
              dsimp [upd]
              refine wpOp_step rfl (fun K2 hK2 => ?_)
              go_simp
              exact hK2 _ _ (hK _ _ hS trivial (Below.refl _ _))
            · have e3 : y 3 = _ := hd 3 rfl
              obtain ⟨y, rfl⟩ := upd_at (y := y) (i := 3) e3
              dsimp [upd]
              refine wpOp_step rfl (fun K2 hK2 => ?_)
              go_simp
              exact hK2 _ _ (hK _ _ hS trivial (Below.refl _ _))
            · have e3 : y 3 = _ := hd 3 rfl
              obtain ⟨y, rfl⟩ := upd_at (y := y) (i := 3) e3
              dsimp [upd]
              refine wpOp_step rfl (fun K2 hK2 => ?_)
              go_simp
              exact hK2 _ _ (hK _ _ hS trivial (Below.refl _ _))
            · have e3 : y 3 = _ := hd 3 rfl
              obtain ⟨y, rfl⟩ := upd_at (y := y) (i := 3) e3
              dsimp [upd]
              refine wpOp_step rfl (fun K2 hK2 => ?_)
              go_simp
              exact hK2 _ _ (hK _ _ hS trivial (Below.refl _ _))
            · have e3 : y 3 = _ := hd 3 rfl
              obtain ⟨y, rfl⟩ := upd_at (y := y) (i := 3) e3
              dsimp [upd]
              refine wpOp_step rfl (fun K2 hK2 => ?_)
              go_simp
              exact hK2 _ _ (hK _ _ hS trivial (Below.refl _ _))
            · have e3 : y 3 = _ := hd 3 rfl
              obtain ⟨y, rfl⟩ := upd_at (y := y) (i := 3) e3
              dsimp [upd]
              refine wpOp_step rfl (fun K2 hK2 => ?_)
              go_simp
              exact hK2 _ _ (hK _ _ hS trivial (Below.refl _ _))
          · intro y w10 f hS hd
            have e3 : y 3 = _ := hd 3 (by decide)
            clear hd
            obtain ⟨y, rfl⟩ := upd_at (y := y) (i := 3) e3
            dsimp [upd]
            refine wpAny_one (i := 12) (by kernel_rfl) ?_
            refine wpOp_step rfl (fun K2 hK2 => ?_)
            go_simp
            refine hK2 _ _ ?_
            clear hK2 K2
            refine wpAny_one (i := 13) (by kernel_rfl) ?_
            refine wpOp_step rfl (fun K2 hK2 => ?_)
            go_simp
            refine hK2 _ _ ?_
            clear hK2 K2
            refine wpAny_done (by kernel_rfl) ?_ _
            go_wp2_with fail
            go_roundg kk
            case measure => omega
            case rel => exact ⟨kk, want, fine, by omega, rfl, rfl, rfl, by first | rfl | go_num, hwb, HSC.out.same, HBX.out.trans (hS.mono (by omega))⟩
        · have hbn : ((kk : Int) != (i : Int)) = true := by rw [bne_iff_ne]; omega
          obtain ⟨by_, A1, kx, hby, _, _, d0, d1, d2, d3, d4, d5, hx1, hx1f⟩ := L9'.at_ (j := kk) (by omega)
          obtain rfl : c6 = by_ := by injection hby with hby; injection hby
          have hxe : (rs.set i z)[kk]'(by omega) = rs[kk]'(by omega) := by rw [List.getElem_set_ne (Ne.symm hki)]
          rw [hxe] at d0 d1 d2 d3 d4 d5 hx1 hx1f
          obtain ⟨x1, hx1e⟩ : ∃ x1, rs[kk]'(by omega) = x1 := ⟨_, rfl⟩
          rw [hx1e] at d0 d1 d2 d3 d4 d5 hx1 hx1f
          have HX1 := Lib.hid hx1
          have HX1E := Lib.hid hx1e
          have hx1l := hx1f.2.1
          clear hx1 hx1f hxe hby hx1e
          go_upto_region 12 with fail
          refine wp_region_head 12 1 (by kernel_rfl) (fun y => .agg #[.int .u8 bs, .int .u8 dr, .slice A n k] :: .agg #[.int .u8 at_, .int .u8 wh, .int .u8 b, .int .i8 nn] :: .pointer (some ⟨g, 0, none⟩) :: .pointer (some ⟨g + 1, 0, none⟩) :: .bool false :: .bool true :: .pointer (some ⟨q, 0, none⟩) :: .int .i64 i :: .slice (some ⟨c6, 0, none⟩) rs.length k6 :: .int .i64 want :: .bool fine :: .int .i64 kk :: undef :: undef :: .bool true :: .agg #[.int .u8 bs, .int .u8 dr, .slice A n k] :: .agg #[.int .i64 m, .int .u8 a, .slice (some ⟨c2, 0, none⟩) rs.length k2] :: .agg #[.int .i64 m, .int .u8 a, .slice (some ⟨c2, 0, none⟩) rs.length k2] :: .bool true :: .bool false :: .pointer (some ⟨g + 1, 0, none⟩) :: .int .u8 at_ :: .int .i64 at_ :: .pointer (some ⟨q, 2, none⟩) :: .slice (some ⟨c2, 0, none⟩) rs.length k2 :: .int .i64 rs.length :: .int .i64 i :: .slice (some ⟨p, 0, none⟩) 0 0 :: .pointer (some ⟨q, 2, none⟩) :: .slice (some ⟨c2, 0, none⟩) rs.length k2 :: .slice (some ⟨c6, 0, none⟩) rs.length k6 :: .slice (some ⟨c6, 0, none⟩) rs.length k6 :: .int .i64 i :: t33 :: t34 :: t35 :: t36 :: t37 :: t38 :: .agg #[.string z.p, .slice Az z.c.length kz, .int .u8 z.l, .int .u8 z.r, .int .i64 z.f, .int .i64 z.t] :: .pointer (some ⟨c6, i * 6, none⟩) :: .slice (some ⟨c6, 0, none⟩) rs.length k6 :: .int .i64 rs.length :: .int .i64 ((rs.length : Int) - 1) :: .int .i64 kk :: .bool true :: u46 :: u47 :: y 0 :: y 1 :: y 2 :: y 3 :: y 4 :: y 5 :: y 6 :: y 7 :: y 8 :: y 9 :: y 10 :: y 11 :: u60 :: u61 :: u62 :: u63 :: u64 :: undef :: undef :: undef :: undef :: undef :: undef :: undef :: undef :: undef :: undef :: undef :: undef :: undef :: undef :: undef :: undef :: undef :: undef :: undef :: undef :: undef :: undef :: undef :: undef :: undef :: undef :: undef :: undef :: undef :: undef :: undef :: undef :: undef :: undef :: undef :: [])
            (fun _ w' => Below wr.heap.size wr w') (phiT c6 rs.length k6 kk i x1 z A1 A2 kx kz2) (fun j => [u48, u49, u50, u51, u52, u53, u54, u55, u56, u57, u58, u59].getD j undef)
            (by kernel_rfl) (by kernel_rfl) (by kernel_rfl) (by kernel_rfl) ?_ (Below.refl _ _).drew [0, 1, 2, 3, 4, 5, 6, 7, 8, 9, 10, 11] (by kernel_rfl) ?_ ?_
          · intro j v w1 w2 h hb
            exact h
          · refine allCons ?_ (allCons ?_ (allCons ?_ (allCons ?_ (allCons ?_ (allCons ?_ (allCons ?_ (allCons ?_ (allCons ?_ (allCons ?_ (allCons ?_ (allCons ?_ (allNil))))))))))))
            all_goals intro y w10 K hS hd hK
            · refine wpOp_step rfl (fun K2 hK2 => ?_)
              go_simp
              exact hK2 _ _ (hK _ _ hS rfl (Below.refl _ _))
            · refine wpOp_step rfl (fun K2 hK2 => ?_)
              go_simp
              exact hK2 _ _ (hK _ _ hS rfl (Below.refl _ _))
            · have e0 : y 0 = _ := hd 0 rfl
              have e1 : y 1 = _ := hd 1 rfl
              obtain ⟨y, rfl⟩ := upd_at (y := y) (i := 0) e0
              obtain ⟨y, rfl⟩ := upd_at (y := y) (i := 1) e1
              dsimp [upd]
              refine wpOp_step rfl (fun K2 hK2 => ?_)
              go_simp
              exact hK2 _ _ (hK _ _ hS rfl (Below.refl _ _))
            · have e2 : y 2 = _ := hd 2 rfl
              obtain ⟨y, rfl⟩ := upd_at (y := y) (i := 2) e2
              dsimp [upd]
              refine wpOp_step rfl (fun K2 hK2 => ?_)
              go_simp
              exact hK2 _ _ (hK _ _ hS rfl (Below.refl _ _))
            · have e3 : y 3 = _ := hd 3 rfl
              obtain ⟨y, rfl⟩ := upd_at (y := y) (i := 3) e3
              dsimp [upd]
              refine wpOp_step rfl (fun K2 hK2 => ?_)
              go_simp
              exact hK2 _ _ (hK _ _ hS rfl (Below.refl _ _))
            · have e3 : y 3 = _ := hd 3 rfl
              obtain ⟨y, rfl⟩ := upd_at (y := y) (i := 3) e3
              dsimp [upd]
              refine wpOp_step rfl (fun K2 hK2 => ?_)
              go_simp
              exact hK2 _ _ (hK _ _ hS rfl (Below.refl _ _))
            · have e3 : y 3 = _ := hd 3 rfl
              have e4 : y 4 = _ := hd 4 rfl
              have e5 : y 5 = _ := hd 5 rfl
              obtain ⟨y, rfl⟩ := upd_at (y := y) (i := 3) e3
              obtain ⟨y, rfl⟩ := upd_at (y := y) (i := 4) e4
              obtain ⟨y, rfl⟩ := upd_at (y := y) (i := 5) e5
              dsimp [upd]
              refine wpOp_step rfl (fun K2 hK2 => ?_)
              go_simp
              exact hK2 _ _ (hK _ _ hS rfl (Below.refl _ _))
            · have e3 : y 3 = _ := hd 3 rfl
              have e6 : y 6 = _ := hd 6 rfl
              obtain ⟨y, rfl⟩ := upd_at (y := y) (i := 3) e3
              obtain ⟨y, rfl⟩ := upd_at (y := y) (i := 6) e6
              dsimp [upd]
              have cc0 := (hS.cell (p := ⟨c6, kk * 6, none⟩) (by show c6 < _; omega)).trans d0
              have cc1 := (hS.cell (p := ⟨c6, kk * 6 + 1, none⟩) (by show c6 < _; omega)).trans d1
              have cc2 := (hS.cell (p := ⟨c6, kk * 6 + 2, none⟩) (by show c6 < _; omega)).trans d2
              have cc3 := (hS.cell (p := ⟨c6, kk * 6 + 3, none⟩) (by show c6 < _; omega)).trans d3
              have cc4 := (hS.cell (p := ⟨c6, kk * 6 + 4, none⟩) (by show c6 < _; omega)).trans d4
              have cc5 := (hS.cell (p := ⟨c6, kk * 6 + 5, none⟩) (by show c6 < _; omega)).trans d5
              refine wpOp_step rfl (fun K2 hK2 => ?_)
              go_simp
              exact hK2 _ _ (hK _ _ hS rfl (Below.refl _ _))
            · have e3 : y 3 = _ := hd 3 rfl
              obtain ⟨y, rfl⟩ := upd_at (y := y) (i := 3) e3
              dsimp [upd]
              refine wpOp_step rfl (fun K2 hK2 => ?_)
              go_simp
              exact hK2 _ _ (hK _ _ hS rfl (Below.refl _ _))
            · have e3 : y 3 = _ := hd 3 rfl
              obtain ⟨y, rfl⟩ := upd_at (y := y) (i := 3) e3
              dsimp [upd]
              refine wpOp_step rfl (fun K2 hK2 => ?_)
              go_simp
              exact hK2 _ _ (hK _ _ hS rfl (Below.refl _ _))
            · have e3 : y 3 = _ := hd 3 rfl
              have e8 : y 8 = _ := hd 8 rfl
              have e9 : y 9 = _ := hd 9 rfl
              obtain ⟨y, rfl⟩ := upd_at (y := y) (i := 3) e3
              obtain ⟨y, rfl⟩ := upd_at (y := y) (i := 8) e8
              obtain ⟨y, rfl⟩ := upd_at (y := y) (i := 9) e9
              dsimp [upd]
              refine wpOp_step rfl (fun K2 hK2 => ?_)
              go_simp
              exact hK2 _ _ (hK _ _ hS rfl (Below.refl _ _))
            · have e3 : y 3 = _ := hd 3 rfl
              have e10 : y 10 = _ := hd 10 rfl
              obtain ⟨y, rfl⟩ := upd_at (y := y) (i := 3) e3
              obtain ⟨y, rfl⟩ := upd_at (y := y) (i := 10) e10
              dsimp [upd]
              have cc0 := (hS.cell (p := ⟨c6, i * 6, none⟩) (by show c6 < _; omega)).trans z0
              have cc1 := (hS.cell (p := ⟨c6, i * 6 + 1, none⟩) (by show c6 < _; omega)).trans z1
              have cc2 := (hS.cell (p := ⟨c6, i * 6 + 2, none⟩) (by show c6 < _; omega)).trans z2
              have cc3 := (hS.cell (p := ⟨c6, i * 6 + 3, none⟩) (by show c6 < _; omega)).trans z3
              have cc4 := (hS.cell (p := ⟨c6, i * 6 + 4, none⟩) (by show c6 < _; omega)).trans z4
              have cc5 := (hS.cell (p := ⟨c6, i * 6 + 5, none⟩) (by show c6 < _; omega)).trans z5
              refine wpOp_step rfl (fun K2 hK2 => ?_)
              go_simp
              exact hK2 _ _ (hK _ _ hS rfl (Below.refl _ _))
          · intro y w10 f hS hd
            have e3 : y 3 = _ := hd 3 (by decide)
            have e7 : y 7 = _ := hd 7 (by decide)
            have e11 : y 11 = _ := hd 11 (by decide)
            clear hd
            obtain ⟨y, rfl⟩ := upd_at (y := y) (i := 3) e3
            obtain ⟨y, rfl⟩ := upd_at (y := y) (i := 7) e7
            obtain ⟨y, rfl⟩ := upd_at (y := y) (i := 11) e11
            dsimp [upd]
            refine wpAny_one (i := 12) (by kernel_rfl) ?_
            refine wpOp_step rfl (fun K2 hK2 => ?_)
            go_simp
            refine (sameRule_any A1 A2 _ _ kx kz2 x1 z _ rfl rfl (HX1.out.1.below hS).seq (HZ2.out.1.below hS).seq hx1l).mono ?_
            rintro e' w11 ⟨rfl, hb11⟩
            have B11 := Lib.hid (HBX.out.trans ((below_next hS hb11).mono (by omega)))
            refine hK2 _ _ ?_
            clear hK2 K2
            refine wpAny_one (i := 13) (by kernel_rfl) ?_
            refine wpOp_step rfl (fun K2 hK2 => ?_)
            go_simp
            refine hK2 _ _ ?_
            clear hK2 K2
            refine wpAny_done (by kernel_rfl) ?_ _
            obtain ⟨vb, hvb⟩ : ∃ vb, eqB x1 z = vb := ⟨_, rfl⟩
            rw [hvb]
            have HVB := Lib.hid hvb
            clear hvb e3 e7 e11 hS hb11
            cases vb
            · go_wp2_with fail
              go_roundg kk
              case measure => omega
              case rel => exact ⟨kk, want, fine, by omega, rfl, rfl, rfl, by first | rfl | go_num, hwb, HSC.out.other (by omega) (by rw [HX1E.out]; exact eqB_no HVB.out), B11.out⟩
            · have hmx : max (kk : Int) (i : Int) = ((max kk i : Nat) : Int) := by omega
              go_wp2_with fail
              go_roundg kk
              case measure => omega
              case rel => exact ⟨kk, ((max kk i : Nat) : Int), false, by omega, rfl, by first | rfl | (rw [hmx]), rfl, by first | rfl | go_num, ⟨by omega, by omega⟩, Scan.found (by omega) hki (by rw [HX1E.out]; exact eqB_yes HVB.out), B11.out⟩
set_option maxRecDepth 100000 in
theorem lifted (os : Os) (started : os.Started) (H : Type) (enc : TypeId × Value → H) :
    ReturnsInHanded {} Tryd.checked os 6 .any (fun w args => (Rows.tableSpoilsSpec.pre enc Tryd.prog Tryd.f6 [] false w args ∧ laidMetH Tryd.prog laidL w) ∧ sizedMet enc Tryd.prog Tryd.f6 (OpenSpec.ofChange Rows.tableSpoilsSpec) false w args)
      (Rows.tableSpoilsSpec.post enc Tryd.prog Tryd.f6 false true false false) := by
  refine returnsInHanded_of_change_and (C := Tryd.checked) (X := fun w _ => laidMetH Tryd.prog laidL w) (fun _ _ _ hh h => h.of_heap hh) own started (by kernel_rfl) Tryd.func6
    (ChangeSpec.witness_shaped (enc := enc) (C := Tryd.checked) (os := os) (X := fun w _ => laidMetH Tryd.prog laidL w) false (World.doorLaid Tryd.prog 400 os) #[.agg #[.int .u8 0, .int .u8 0, .slice none 0 0], .agg #[.int .u8 0, .int .u8 0, .int .u8 0, .int .i8 0]] 8 rfl (World.shaped_of_RefB (by kernel_rfl) (by kernel_rfl)) (by kernel_rfl) (by kernel_rfl) (by kernel_rfl) (door_met os _)) ?_
  intro W base args ds gs before hval0 hW hcnd hsz0 hL _
  have hval : ∀ (j : Nat) t v, Tryd.f6.params[j]? = some t → args[j]? = some v → Value.okWide Tryd.prog W .any base t v := hval0
  have hW' := hW
  obtain ⟨p, q, hA0, hV, rfl, hfz, hnd⟩ := hW
  have hA : DataW.TrodAll enc Tryd.prog W 0 (fun _ => true) true Tryd.f6.params.toList args.toList ds p := hA0
  rw [Tryd.params6] at hA hval
  obtain ⟨v0, vs0, d0, ds0, p0, q0, hargs, rfl, rfl, h0, r0⟩ := trodAll_cons hA
  obtain ⟨v1, vs1, d1, ds1, p1, q1, rfl, rfl, rfl, h1, r1⟩ := trodAll_cons r0
  obtain ⟨rfl, rfl, rfl⟩ := trodAll_nil r1
  obtain rfl : args = #[v0, v1] := by cases args; simp_all
  obtain ⟨rfl, rfl⟩ := trodVars_none hV
  have k0 := h0
  have lt0 : ∀ x ∈ p0, x.block < W.heap.size := by obtain ⟨m, hm⟩ := k0; exact DataW.trod_lt m _ _ _ hm
  have k1 := h1
  have lt1 : ∀ x ∈ p1, x.block < W.heap.size := by obtain ⟨m, hm⟩ := k1; exact DataW.trod_lt m _ _ _ hm
  obtain ⟨bs, dr, A, n, k, rfl, hr0, hbs, hdr⟩ := open_raw (hval 0 41 v0 rfl rfl) h0
  obtain ⟨at_, wh, b, nn, rfl, hat, hwh, hb, hnn⟩ := open_spoil (hval 1 44 v1 rfl rfl) h1
  clear hA0 hval0
  refine (walk_spoils A n k bs dr at_ wh b nn W hr0 hbs hdr hat hwh hb hnn (of_laid hL)).mono fun e W' ⟨he, bel⟩ => ?_
  subst he
  exact ⟨_, rfl, _, _, _, [], _, [], hW', trodAll_mk1 (shut_bool Tryd.underlying4 _), (trodAll_cons_mk (Below.trod laidOut (by kernel_rfl) (of_decide_eq_true (by kernel_rfl)) k0 bel lt0) (trodAll_cons_mk (Below.trod laidOut (by kernel_rfl) (of_decide_eq_true (by kernel_rfl)) k1 bel lt1) trodAll_mk0)), rfl, bel.frame _, fun h => by cases h⟩

theorem over : Rows.TableSpoilsSaid :=
  OpenClaim.holds_of_wide 6 Tryd.f6 rfl rfl rfl rfl rfl rfl rfl ⟨rfl, rfl, rfl, rfl, rfl⟩ rfl rfl rfl rfl rfl (by kernel_rfl) Tryd.func6 (by kernel_rfl)
    (of_decide_eq_true (by kernel_rfl)) (by unfold Func.isWrapper; first | (rw [if_pos (by decide +kernel)]; kernel_rfl) | (rw [if_neg (by decide +kernel)]; exact ⟨rfl, rfl⟩))
    (fun os started H enc _ => lifted os started H enc)

theorem proved : Rows.TableSpoilsCardSaid :=
  Claim7.holds_tied_plain_at .later [] [.data, .data, .data, .sentinel, .sentinel] true (true, "c18c62adea010eee9444321e409370a16f387a51dafbd9167593a52b4de1fdf2") true
    over (fun _ h => by cases h) (by kernel_rfl) (fun _ h => by cases h) tableSpoils_row_tie rfl ⟨rfl, rfl⟩ (by kernel_rfl) rfl
    (fun f fn hf hfn => by
      obtain rfl : f = 6 := Option.some.inj ((show Tryd.prog.funcNamed "sixdot/sixdotlaw02.TableSpoils" = some 6 by kernel_rfl).symm.trans hf) |>.symm
      obtain rfl : fn = Tryd.f6 := (Option.some.inj (Tryd.func6.symm.trans hfn)).symm
      exact ⟨by kernel_rfl, fun j t ht => by
        rw [Tryd.params6] at ht
        have hm : t ∈ [41, 44] := by have := Array.mem_of_getElem? ht; simpa using this
        have hall : ([41, 44].all fun u => !Tryd.prog.wantsStandIn u) = true := by kernel_rfl
        exact (show Tryd.prog.wantsStandIn t = false by simpa using List.all_eq_true.1 hall t hm)⟩)
    (by kernel_rfl)

end Go.Proofs.YtjcknfaopmpocaaDoor
