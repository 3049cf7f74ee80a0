/- Merged by program: Tab11 -/
import Derived.Test.YtpkdlljefkbmpaaQ9
import Derived.Test.YtpkdlljefkbmpaaQ4

/-! The reference's Check, Valid. -/
namespace Go.Proofs.Ytpkdlljefkbmpaa
open Go.RowKit

theorem keepS6 {V w' w'' : World} {b o h : Nat} {x : Rule} {A E : Option Addr} {k n q : Nat} {m : Int} (hb : Below w'.heap.size w' w'')
  (H : Below V.heap.size V w' ∧ b < w'.heap.size ∧ h < w'.heap.size ∧ w'.cell? ⟨b, o, none⟩ = some (.string x.p) ∧ w'.cell? ⟨b, o + 1, none⟩ = some (.slice A x.c.length k) ∧ w'.cell? ⟨b, o + 2, none⟩ = some (.int .u8 x.l) ∧ w'.cell? ⟨b, o + 3, none⟩ = some (.int .u8 x.r) ∧ w'.cell? ⟨b, o + 4, none⟩ = some (.int .i64 x.f) ∧ w'.cell? ⟨b, o + 5, none⟩ = some (.int .i64 x.t) ∧ w'.cell? ⟨h, 0, none⟩ = some (.int .i64 m) ∧ w'.cell? ⟨h, 2, none⟩ = some (.slice E n q)) :
  Below V.heap.size V w'' ∧ b < w''.heap.size ∧ h < w''.heap.size ∧ w''.cell? ⟨b, o, none⟩ = some (.string x.p) ∧ w''.cell? ⟨b, o + 1, none⟩ = some (.slice A x.c.length k) ∧ w''.cell? ⟨b, o + 2, none⟩ = some (.int .u8 x.l) ∧ w''.cell? ⟨b, o + 3, none⟩ = some (.int .u8 x.r) ∧ w''.cell? ⟨b, o + 4, none⟩ = some (.int .i64 x.f) ∧ w''.cell? ⟨b, o + 5, none⟩ = some (.int .i64 x.t) ∧ w''.cell? ⟨h, 0, none⟩ = some (.int .i64 m) ∧ w''.cell? ⟨h, 2, none⟩ = some (.slice E n q) := by
 obtain ⟨h1, h2, h3, a0, a1, a2, a3, a4, a5, b0, b2⟩ := H
 have hs := hb.size
 exact ⟨h1.trans (hb.mono (by have := h1.size; omega)), by omega, by omega, keepC hb a0 h2, keepC hb a1 h2, keepC hb a2 h2, keepC hb a3 h2, keepC hb a4 h2, keepC hb a5 h2, keepC hb b0 h3, keepC hb b2 h3⟩
theorem keepS11 {V w' w'' : World} {b o o2 h : Nat} {x y : Rule} {A A2 E : Option Addr} {k k2 n q : Nat} (hb : Below w'.heap.size w' w'')
  (H : Below V.heap.size V w' ∧ b < w'.heap.size ∧ h < w'.heap.size ∧ w'.cell? ⟨b, o, none⟩ = some (.string x.p) ∧ w'.cell? ⟨b, o + 1, none⟩ = some (.slice A x.c.length k) ∧ w'.cell? ⟨b, o + 2, none⟩ = some (.int .u8 x.l) ∧ w'.cell? ⟨b, o + 3, none⟩ = some (.int .u8 x.r) ∧ w'.cell? ⟨b, o + 4, none⟩ = some (.int .i64 x.f) ∧ w'.cell? ⟨b, o + 5, none⟩ = some (.int .i64 x.t) ∧ w'.cell? ⟨b, o2, none⟩ = some (.string y.p) ∧ w'.cell? ⟨b, o2 + 1, none⟩ = some (.slice A2 y.c.length k2) ∧ w'.cell? ⟨b, o2 + 2, none⟩ = some (.int .u8 y.l) ∧ w'.cell? ⟨b, o2 + 3, none⟩ = some (.int .u8 y.r) ∧ w'.cell? ⟨b, o2 + 4, none⟩ = some (.int .i64 y.f) ∧ w'.cell? ⟨b, o2 + 5, none⟩ = some (.int .i64 y.t) ∧ w'.cell? ⟨h, 2, none⟩ = some (.slice E n q)) :
  Below V.heap.size V w'' ∧ b < w''.heap.size ∧ h < w''.heap.size ∧ w''.cell? ⟨b, o, none⟩ = some (.string x.p) ∧ w''.cell? ⟨b, o + 1, none⟩ = some (.slice A x.c.length k) ∧ w''.cell? ⟨b, o + 2, none⟩ = some (.int .u8 x.l) ∧ w''.cell? ⟨b, o + 3, none⟩ = some (.int .u8 x.r) ∧ w''.cell? ⟨b, o + 4, none⟩ = some (.int .i64 x.f) ∧ w''.cell? ⟨b, o + 5, none⟩ = some (.int .i64 x.t) ∧ w''.cell? ⟨b, o2, none⟩ = some (.string y.p) ∧ w''.cell? ⟨b, o2 + 1, none⟩ = some (.slice A2 y.c.length k2) ∧ w''.cell? ⟨b, o2 + 2, none⟩ = some (.int .u8 y.l) ∧ w''.cell? ⟨b, o2 + 3, none⟩ = some (.int .u8 y.r) ∧ w''.cell? ⟨b, o2 + 4, none⟩ = some (.int .i64 y.f) ∧ w''.cell? ⟨b, o2 + 5, none⟩ = some (.int .i64 y.t) ∧ w''.cell? ⟨h, 2, none⟩ = some (.slice E n q) := by
 obtain ⟨h1, h2, h3, a0, a1, a2, a3, a4, a5, c0, c1, c2, c3, c4, c5, b2⟩ := H
 have hs := hb.size
 exact ⟨h1.trans (hb.mono (by have := h1.size; omega)), by omega, by omega, keepC hb a0 h2, keepC hb a1 h2, keepC hb a2 h2, keepC hb a3 h2, keepC hb a4 h2, keepC hb a5 h2, keepC hb c0 h2, keepC hb c1 h2, keepC hb c2 h2, keepC hb c3 h2, keepC hb c4 h2, keepC hb c5 h2, keepC hb b2 h3⟩

theorem rnums_ways (m a : Int) (n : Nat) (P : Int) (hP : IntKind.i64.wrap (2 ^ m.toNat) = P) :
  (m < 1 ∧ numsB m a n = false) ∨ (decide (m < 1) = false ∧ 8 < m ∧ numsB m a n = false) ∨ (decide (m < 1) = false ∧ decide (8 < m) = false ∧ (a == 0) = true ∧ numsB m a n = false) ∨ (decide (m < 1) = false ∧ decide (8 < m) = false ∧ (a == 0) = false ∧ P ≤ a ∧ numsB m a n = false) ∨ (decide (m < 1) = false ∧ decide (8 < m) = false ∧ (a == 0) = false ∧ decide (P ≤ a) = false ∧ (n : Int) < 1 ∧ numsB m a n = false) ∨ (decide (m < 1) = false ∧ decide (8 < m) = false ∧ (a == 0) = false ∧ decide (P ≤ a) = false ∧ decide ((n : Int) < 1) = false ∧ 64 < (n : Int) ∧ numsB m a n = false) ∨ (decide (m < 1) = false ∧ decide (8 < m) = false ∧ (a == 0) = false ∧ decide (P ≤ a) = false ∧ decide ((n : Int) < 1) = false ∧ decide (64 < (n : Int)) = false ∧ numsB m a n = true) := by
 rcases nums_ways m a n P hP with ⟨h1, hv⟩ | ⟨h1, h2, hv⟩ | ⟨h1, h2, h3, hv⟩ | ⟨h1, h2, h3, h4, hv⟩ | ⟨h1, h2, h3, h4, h5, hv⟩ | ⟨h1, h2, h3, h4, h5, h6, hv⟩ | ⟨h1, h2, h3, h4, h5, h6, hv⟩
 all_goals simp only [decide_eq_false_iff_not, bne_iff_ne, bne_eq_false_iff_eq, beq_iff_eq, beq_eq_false_iff_ne, hv] at *
 all_goals simp
 all_goals omega
theorem memB_take_no {rs : List Rule} {y : Rule} {j : Nat} (hj : j ≤ rs.length) (h : ∀ i, i < j → ¬ rs[i]? = some y) : memB y (rs.take j) = false :=
 memB_no (n := j) (by rw [List.length_take]; omega) (fun i hi e => h i hi (by rw [List.getElem?_take_of_lt hi] at e; exact e))
theorem memB_take_yes {rs : List Rule} {y : Rule} {i j : Nat} (hi : i < j) (h : rs[i]? = some y) : memB y (rs.take j) = true :=
 memB_yes (j := i) (by rw [List.getElem?_take_of_lt hi]; exact h)
set_option maxRecDepth 10000 in
set_option maxHeartbeats 4000000 in
theorem rCheck_any (A : Option Addr) (n k : Nat) (m a : Int) (rs : List Rule) (w : World) (hn : rs.length = n) (hx : Rules w w.heap.size A rs) (hmax : n < 2 ^ 40) (ha : 0 ≤ a ∧ a < 256) :
  Calls Try.prog 99 #[.agg #[.int .i64 m, .int .u8 a, .slice A n k]] w fun e w' => e = .returned (.tuple #[.int .i64 (chkI m a rs), .int .i64 (chkE m a rs)]) ∧ Below w.heap.size w w' := by
 have HN := Lib.hid hn
 have hbx : Hid (Below w.heap.size w (w.alloc (.cells #[.int .i64 m, .int .u8 a, .slice A n k] 30))) := below_box _ _ _
 have hblk : Blk (w.alloc (.cells #[.int .i64 m, .int .u8 a, .slice A n k] 30)) w.heap.size 30 #[.int .i64 m, .int .u8 a, .slice A n k] := Blk.new _ _ _
 have hR := hx.up hbx.out
 have hsz : w.heap.size < (w.alloc (.cells #[.int .i64 m, .int .u8 a, .slice A n k] 30)).heap.size := by simp
 clear hn hx
 obtain ⟨P, hP⟩ : ∃ P : Int, IntKind.i64.wrap (2 ^ m.toNat) = P := ⟨_, rfl⟩
 rcases rnums_ways m a n P hP with ⟨h1, hv⟩ | ⟨h1, h2, hv⟩ | ⟨h1, h2, h3, hv⟩ | ⟨h1, h2, h3, h4, hv⟩ | ⟨h1, h2, h3, h4, h5, hv⟩ | ⟨h1, h2, h3, h4, h5, h6, hv⟩ | ⟨h1, h2, h3, h4, h5, h6, hv⟩
 all_goals
  try (have hm0 : 0 ≤ m := by have := of_decide_eq_false h1; omega)
  try (have hml : m ≤ 64 := by have := of_decide_eq_false h2; omega)
  have HV := Lib.hid hv
  clear hv
  go_enter Try.func99, Try.ntmps99
  go_wp2
  generalize w.alloc (.cells #[.int .i64 m, .int .u8 a, .slice A n k] 30) = W at *
  have f0 := hblk.cell 0
  have f1 := hblk.cell 1
  have f2 := hblk.cell 2
  simp at f0 f1 f2
  go_quiet (fail)
 rotate_left 6
 ·
  have hblk2 : Blk (W.drewN nq) w.heap.size 30 #[.int .i64 m, .int .u8 a, .slice A n k] := hblk
  have hR2 : Rules (W.drewN nq) (W.drewN nq).heap.size A rs := hR
  have hbx2 : Hid (Below w.heap.size w (W.drewN nq)) := below_dN hbx.out
  have hsz2 : w.heap.size < (W.drewN nq).heap.size := hsz
  clear f0 f1 f2 hblk hR hbx hsz h1 h2 h3 h4 h5 h6 hP hm0 hml
  generalize W.drewN nq = U at *
  go_wp2_with fail
  go_loopw [4] (fun i wr => ∃ j : Nat, j ≤ n ∧ i = .int .i64 j ∧ (∀ i, i < j → badAt m rs i = false) ∧ Below U.heap.size U wr) (fun i _ => n - (intOf i).toNat)
  case atStart => exact ⟨0, by omega, rfl, fun i h => absurd h (by omega), Below.refl _ _⟩
  case round =>
   obtain ⟨j, hj, rfl, hto, hb⟩ := hrel
   have HTO := Lib.hid hto
   clear hto
   have HBLK := Lib.hid hblk2
   have hblk3 := hblk2.keep hb hsz2
   have hsz3 := hb.size
   have HB := Lib.hid hb
   have hlt3 : w.heap.size < wr.heap.size := by omega
   have g2 := hblk3.cell 2
   simp at g2
   by_cases hlt : j < n
   ·
    obtain ⟨b, o, e1, hB1, hc⟩ := hR2 (by have := HN.out; omega)
    subst e1
    obtain ⟨A', k', d0, d1, d2, d3, d4, d5, hs, hf⟩ := (hc j (by have := HN.out; omega)).keep hB1 hb
    have HY : Hid (rs[j]? = some (rs[j]'(by have := HN.out; omega))) := List.getElem?_eq_getElem _
    have HR := Lib.hid hR2
    clear hc hR2
    generalize rs[j]'(by have := HN.out; omega) = x at *
    have hblk4 := Lib.hid hblk3
    have hj0 : (0 : Int) ≤ (j : Int) := by omega
    have hjn : (j : Int) < (n : Int) := by omega
    have HS := Lib.hid hs
    have HF := Lib.hid hf
    clear hs hf hb
    go_wp2_with fail
    have hS : Below wr.heap.size wr wr ∧ b < wr.heap.size ∧ w.heap.size < wr.heap.size ∧ wr.cell? ⟨b, o + j * 6, none⟩ = some (.string x.p) ∧ wr.cell? ⟨b, o + j * 6 + 1, none⟩ = some (.slice A' x.c.length k') ∧ wr.cell? ⟨b, o + j * 6 + 2, none⟩ = some (.int .u8 x.l) ∧ wr.cell? ⟨b, o + j * 6 + 3, none⟩ = some (.int .u8 x.r) ∧ wr.cell? ⟨b, o + j * 6 + 4, none⟩ = some (.int .i64 x.f) ∧ wr.cell? ⟨b, o + j * 6 + 5, none⟩ = some (.int .i64 x.t) ∧ wr.cell? ⟨w.heap.size, 0, none⟩ = some (.int .i64 m) ∧ wr.cell? ⟨w.heap.size, 2, none⟩ = some (.slice (some ⟨b, o, none⟩) n k) := ⟨Below.refl _ _, by omega, hlt3, d0, d1, d2, d3, d4, d5, by rw [hblk4.out.cell 0]; rfl, by rw [hblk4.out.cell 2]; rfl⟩
    have HSV : Hid (Seq wr wr.heap.size A' x.c) := HS.out.more hsz3
    clear d0 d1 d2 d3 d4 d5 hblk2 hblk3 hblk4 HS g2
    have hl1 : x.p.size < 2 ^ 47 := HF.out.1
    obtain ⟨s1, hs1⟩ : ∃ s, soundB x m = s := ⟨_, rfl⟩
    have S1 := Lib.hid hs1
    clear hs1
    go_region_held3 (fun w' => Below wr.heap.size wr w' ∧ b < w'.heap.size ∧ w.heap.size < w'.heap.size ∧ w'.cell? ⟨b, o + j * 6, none⟩ = some (.string x.p) ∧ w'.cell? ⟨b, o + j * 6 + 1, none⟩ = some (.slice A' x.c.length k') ∧ w'.cell? ⟨b, o + j * 6 + 2, none⟩ = some (.int .u8 x.l) ∧ w'.cell? ⟨b, o + j * 6 + 3, none⟩ = some (.int .u8 x.r) ∧ w'.cell? ⟨b, o + j * 6 + 4, none⟩ = some (.int .i64 x.f) ∧ w'.cell? ⟨b, o + j * 6 + 5, none⟩ = some (.int .i64 x.t) ∧ w'.cell? ⟨w.heap.size, 0, none⟩ = some (.int .i64 m) ∧ w'.cell? ⟨w.heap.size, 2, none⟩ = some (.slice (some ⟨b, o, none⟩) n k)) (first | assumption | (apply keepS6; (first | assumption | exact Below.drew (Below.refl _ _)); assumption))
      (first | (go_at_call 135; refine (rSound_any A' _ k' x m _ rfl (by first | exact HSV.out | exact HSV.out.up (by assumption)) HF.out).mono ?_; rintro e w2 ⟨rfl, hb2⟩; rw [S1.out]))
    have hv : Below wr.heap.size wr w2 := And.left (by assumption)
    have HBW := Lib.hid (below_next HB.out hv)
    clear hS hb2 hv HSV
    rename_i hheld
    clear hheld
    cases s1
    ·
     go_wp2
     go_ret2
     have hbad : badAt m rs j = true := by rw [badAt_at HY.out, S1.out]; rfl
     obtain ⟨e1, e2⟩ := chk_bad (a := a) (rs := rs) (by rw [HN.out]; exact HV.out) HTO.out hbad (by rw [HN.out]; exact hlt)
     exact ⟨ret_two (by rw [e1]) (by rw [e2]), below_next hbx2.out HBW.out⟩
    ·
     go_wp2_with fail
     go_loopw [5] (fun i wr => ∃ i' : Nat, i' ≤ j ∧ i = .int .i64 i' ∧ (∀ q, q < i' → ¬ rs[q]? = some x) ∧ Below U.heap.size U wr) (fun i _ => j - (intOf i).toNat)
     case atStart => exact ⟨0, by omega, rfl, fun i h => absurd h (by omega), HBW.out⟩
     case round =>
      obtain ⟨i, hi, rfl, hno, hbi⟩ := hrel
      have HNO := Lib.hid hno
      clear hno HBW
      have hblk5 := HBLK.out.keep hbi hsz2
      have hsz5 := hbi.size
      have hlt5 : w.heap.size < wr.heap.size := by omega
      have HBI := Lib.hid hbi
      by_cases hij : i < j
      ·
       obtain ⟨b2, o2, e1, _, hc⟩ := HR.out (by have := HN.out; omega)
       injection e1 with e1
       injection e1 with eb eo
       subst eb eo
       obtain ⟨A2, k2, d0, d1, d2, d3, d4, d5, hs2, hf2⟩ := (hc i (by have := HN.out; omega)).keep hB1 hbi
       obtain ⟨A1, k1, c0, c1, c2, c3, c4, c5, hs1, hf1⟩ := (hc j (by have := HN.out; omega)).keep hB1 hbi
       have HY2 : Hid (rs[i]? = some (rs[i]'(by have := HN.out; omega))) := List.getElem?_eq_getElem _
       have hxe : rs[j]'(by have := HN.out; omega) = x := by
        have := HY.out
        rw [List.getElem?_eq_getElem (by have := HN.out; omega)] at this
        injection this
       rw [hxe] at c0 c1 c2 c3 c4 c5 hs1 hf1
       clear hc hxe
       generalize rs[i]'(by have := HN.out; omega) = y at *
       have hi0 : (0 : Int) ≤ (i : Int) := by omega
       have hij2 : (i : Int) < (j : Int) := by omega
       have hin : (i : Int) < (n : Int) := by omega
       clear hbi
       go_wp2_with fail
       have hS : Below wr.heap.size wr wr ∧ b < wr.heap.size ∧ w.heap.size < wr.heap.size ∧ wr.cell? ⟨b, o + i * 6, none⟩ = some (.string y.p) ∧ wr.cell? ⟨b, o + i * 6 + 1, none⟩ = some (.slice A2 y.c.length k2) ∧ wr.cell? ⟨b, o + i * 6 + 2, none⟩ = some (.int .u8 y.l) ∧ wr.cell? ⟨b, o + i * 6 + 3, none⟩ = some (.int .u8 y.r) ∧ wr.cell? ⟨b, o + i * 6 + 4, none⟩ = some (.int .i64 y.f) ∧ wr.cell? ⟨b, o + i * 6 + 5, none⟩ = some (.int .i64 y.t) ∧ wr.cell? ⟨b, o + j * 6, none⟩ = some (.string x.p) ∧ wr.cell? ⟨b, o + j * 6 + 1, none⟩ = some (.slice A1 x.c.length k1) ∧ wr.cell? ⟨b, o + j * 6 + 2, none⟩ = some (.int .u8 x.l) ∧ wr.cell? ⟨b, o + j * 6 + 3, none⟩ = some (.int .u8 x.r) ∧ wr.cell? ⟨b, o + j * 6 + 4, none⟩ = some (.int .i64 x.f) ∧ wr.cell? ⟨b, o + j * 6 + 5, none⟩ = some (.int .i64 x.t) ∧ wr.cell? ⟨w.heap.size, 2, none⟩ = some (.slice (some ⟨b, o, none⟩) n k) := ⟨Below.refl _ _, by omega, hlt5, d0, d1, d2, d3, d4, d5, c0, c1, c2, c3, c4, c5, by rw [hblk5.cell 2]; rfl⟩
       have HS1 : Hid (Seq wr wr.heap.size A1 x.c) := hs1.more hsz5
       have HS2 : Hid (Seq wr wr.heap.size A2 y.c) := hs2.more hsz5
       have hl2 : y.c.length < 2 ^ 47 := hf2.2.1
       clear d0 d1 d2 d3 d4 d5 c0 c1 c2 c3 c4 c5 hs1 hs2 hblk5 hf1 hf2
       obtain ⟨s2, hs2⟩ : ∃ s, eqB y x = s := ⟨_, rfl⟩
       have S2 := Lib.hid hs2
       clear hs2
       go_region_held3 (fun w' => Below wr.heap.size wr w' ∧ b < w'.heap.size ∧ w.heap.size < w'.heap.size ∧ w'.cell? ⟨b, o + i * 6, none⟩ = some (.string y.p) ∧ w'.cell? ⟨b, o + i * 6 + 1, none⟩ = some (.slice A2 y.c.length k2) ∧ w'.cell? ⟨b, o + i * 6 + 2, none⟩ = some (.int .u8 y.l) ∧ w'.cell? ⟨b, o + i * 6 + 3, none⟩ = some (.int .u8 y.r) ∧ w'.cell? ⟨b, o + i * 6 + 4, none⟩ = some (.int .i64 y.f) ∧ w'.cell? ⟨b, o + i * 6 + 5, none⟩ = some (.int .i64 y.t) ∧ w'.cell? ⟨b, o + j * 6, none⟩ = some (.string x.p) ∧ w'.cell? ⟨b, o + j * 6 + 1, none⟩ = some (.slice A1 x.c.length k1) ∧ w'.cell? ⟨b, o + j * 6 + 2, none⟩ = some (.int .u8 x.l) ∧ w'.cell? ⟨b, o + j * 6 + 3, none⟩ = some (.int .u8 x.r) ∧ w'.cell? ⟨b, o + j * 6 + 4, none⟩ = some (.int .i64 x.f) ∧ w'.cell? ⟨b, o + j * 6 + 5, none⟩ = some (.int .i64 x.t) ∧ w'.cell? ⟨w.heap.size, 2, none⟩ = some (.slice (some ⟨b, o, none⟩) n k)) (first | assumption | (apply keepS11; (first | assumption | exact Below.drew (Below.refl _ _)); assumption))
        (first | (go_at_call 136; refine (sameRule_any A2 A1 _ _ k2 k1 y x _ rfl rfl (by first | exact HS2.out | exact HS2.out.up (by assumption)) (by first | exact HS1.out | exact HS1.out.up (by assumption)) hl2).mono ?_; rintro e w3 ⟨rfl, hb3⟩; rw [S2.out]))
       have hv : Below wr.heap.size wr w3 := And.left (by assumption)
       have HBW := Lib.hid (below_next HBI.out hv)
       clear hS hb3 hv HS1 HS2
       rename_i hheld
       clear hheld
       cases s2
       ·
        go_wp2
        refine ⟨?_, by simp [intOf]; omega⟩
        repeat apply Exists.intro
        exact ⟨⟨i + 1, by omega, by go_num, notin_step HNO.out HY2.out (eqB_no S2.out), HBW.out⟩, rfl⟩
       ·
        go_wp2
        go_ret2
        have hbad : badAt m rs j = true := by rw [badAt_at HY.out, memB_take_yes (i := i) hij (by rw [HY2.out, eqB_yes S2.out])]; simp
        obtain ⟨e1, e2⟩ := chk_bad (a := a) (rs := rs) (by rw [HN.out]; exact HV.out) HTO.out hbad (by rw [HN.out]; exact hlt)
        exact ⟨ret_two (by rw [e1]) (by rw [e2]), below_next hbx2.out HBW.out⟩
      ·
       have : i = j := by omega
       subst this
       clear hbi
       go_wp2
       have hbad : badAt m rs i = false := by rw [badAt_at HY.out, S1.out, memB_take_no (by have := HN.out; omega) HNO.out]; rfl
       exact ⟨⟨i + 1, by omega, by go_num, below_step HTO.out hbad, HBI.out⟩, by simp [intOf]; omega⟩
   ·
    have : j = n := by omega
    subst this
    clear hb
    go_wp2
    go_ret2
    obtain ⟨e1, e2⟩ := chk_ok (a := a) (rs := rs) (by rw [HN.out]; exact HV.out) (by rw [HN.out]; exact HTO.out)
    exact ⟨ret_two (by rw [e1]) (by rw [e2]), below_next hbx2.out HB.out⟩
 all_goals
  go_wp2
  go_ret2
  obtain ⟨e1, e2⟩ := chk_nums (m := m) (a := a) (rs := rs) (by rw [HN.out]; exact HV.out)
  exact ⟨ret_two (by rw [e1]) (by rw [e2]), below_dN hbx.out⟩

theorem rValid_any (A : Option Addr) (n k : Nat) (m a : Int) (rs : List Rule) (w : World) (hn : rs.length = n) (hx : Rules w w.heap.size A rs) (hmax : n < 2 ^ 40) (ha : 0 ≤ a ∧ a < 256) :
  Calls Try.prog 53 #[.agg #[.int .i64 m, .int .u8 a, .slice A n k]] w fun e w' => e = .returned (.bool (validB m a rs)) ∧ Below w.heap.size w w' := by
 have hbx : Hid (Below w.heap.size w (w.alloc (.cells #[.int .i64 m, .int .u8 a, .slice A n k] 30))) := below_box _ _ _
 have HN := Lib.hid hn
 clear hn
 go_enter Try.func53, Try.ntmps53
 go_wp2_with fail
 refine (rCheck_any A n k m a rs _ HN.out (hx.up hbx.out) hmax ha).mono ?_
 rintro e w1 ⟨rfl, hb1⟩
 have HB := Lib.hid (below_next hbx.out hb1)
 clear hb1
 go_wp2
 go_ret
 exact ⟨rfl, HB.out⟩
end Go.Proofs.Ytpkdlljefkbmpaa
