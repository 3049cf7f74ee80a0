/- Package table: lists of rules in memory; soundNumbers, hasRule. -/
import Derived.Test.YtiedaongfjcbhabGreatDoorTab7
namespace Go.Proofs.YtiedaongfjcbhabGreatDoor
open Go.RowKit

/-- The six cells of a rule, from an address on. -/
def RuleAt (w : World) (B b o : Nat) (x : Rule) : Prop :=
  ∃ A k, w.cell? ⟨b, o, none⟩ = some (.string x.p) ∧ w.cell? ⟨b, o + 1, none⟩ = some (.slice A x.c.length k) ∧ w.cell? ⟨b, o + 2, none⟩ = some (.int .u8 x.l) ∧ w.cell? ⟨b, o + 3, none⟩ = some (.int .u8 x.r) ∧ w.cell? ⟨b, o + 4, none⟩ = some (.int .i64 x.f) ∧ w.cell? ⟨b, o + 5, none⟩ = some (.int .i64 x.t) ∧ Seq w B A x.c ∧ x.fits
/-- A slice that reads as a list of rules. -/
def Rules (w : World) (B : Nat) (A : Option Addr) (rs : List Rule) : Prop :=
  0 < rs.length → ∃ b o : Nat, A = some ⟨b, o, none⟩ ∧ b < B ∧ ∀ j (h : j < rs.length), RuleAt w B b (o + j * 6) rs[j]
theorem RuleAt.keep {w w' : World} {B b o : Nat} {x : Rule} (h : RuleAt w B b o x) (hB : b < B) (hb : Below B w w') : RuleAt w' B b o x := by
  obtain ⟨A, k, h0, h1, h2, h3, h4, h5, hs, hf⟩ := h
  have key : ∀ i, w'.cell? ⟨b, i, none⟩ = w.cell? ⟨b, i, none⟩ := fun i => hb.cell (p := ⟨b, i, none⟩) hB
  exact ⟨A, k, (key _).trans h0, (key _).trans h1, (key _).trans h2, (key _).trans h3, (key _).trans h4, (key _).trans h5, hs.keep hb, hf⟩
theorem Rules.keep {w w' : World} {B : Nat} {A : Option Addr} {rs : List Rule} (h : Rules w B A rs) (hb : Below B w w') : Rules w' B A rs := fun hl => by
  obtain ⟨b, o, e, hB, hc⟩ := h hl
  exact ⟨b, o, e, hB, fun j hj => (hc j hj).keep hB hb⟩
theorem RuleAt.more {w : World} {B B' b o : Nat} {x : Rule} (h : RuleAt w B b o x) (hB : B ≤ B') : RuleAt w B' b o x := by
  obtain ⟨A, k, h0, h1, h2, h3, h4, h5, hs, hf⟩ := h
  exact ⟨A, k, h0, h1, h2, h3, h4, h5, hs.more hB, hf⟩
theorem Rules.more {w : World} {B B' : Nat} {A : Option Addr} {rs : List Rule} (h : Rules w B A rs) (hB : B ≤ B') : Rules w B' A rs := fun hl => by
  obtain ⟨b, o, e, hb, hc⟩ := h hl
  exact ⟨b, o, e, by omega, fun j hj => (hc j hj).more hB⟩
theorem Rules.up {w w' : World} {A : Option Addr} {rs : List Rule} (h : Rules w w.heap.size A rs) (hb : Below w.heap.size w w') : Rules w' w'.heap.size A rs := (h.keep hb).more hb.size
theorem Rules.take {w : World} {B : Nat} {A : Option Addr} {rs : List Rule} (h : Rules w B A rs) (k : Nat) : Rules w B A (rs.take k) := fun hl => by
  have hl' : 0 < rs.length := by have := List.length_take_le k rs; have := List.length_take_le' k rs; omega
  obtain ⟨b, o, e, hB, hc⟩ := h hl'
  exact ⟨b, o, e, hB, fun j hj => by rw [List.getElem_take]; exact hc j _⟩

def numsB (m a n : Int) : Bool := decide (1 ≤ m) && decide (m ≤ 8) && decide (a ≠ 0) && decide (a < 2 ^ m.toNat) && decide (1 ≤ n) && decide (n ≤ 64)

def memB (y : Rule) (rs : List Rule) : Bool := decide (y ∈ rs)
theorem memB_yes {rs : List Rule} {y : Rule} {j : Nat} (h : rs[j]? = some y) : memB y rs = true := by
  unfold memB; simp; exact List.mem_of_getElem? h
theorem memB_no {rs : List Rule} {y : Rule} {n : Nat} (hn : rs.length = n) (h : ∀ i, i < n → ¬ rs[i]? = some y) : memB y rs = false := by
  unfold memB; simp
  intro hm
  obtain ⟨i, hi, e⟩ := List.getElem_of_mem hm
  exact h i (by omega) (by rw [List.getElem?_eq_getElem hi, e])
theorem notin_step {α : Type} {xs : List α} {x y : α} {j : Nat} (h : ∀ i, i < j → ¬ xs[i]? = some x) (hy : xs[j]? = some y) (hne : ¬ y = x) : ∀ i, i < j + 1 → ¬ xs[i]? = some x := by
  intro i hi e
  rcases Nat.lt_or_ge i j with g | g
  · exact h i g e
  · obtain rfl : i = j := by omega
    rw [hy] at e; injection e with e; exact hne e
theorem eqB_no {α : Type} [DecidableEq α] {a b : α} (h : eqB a b = false) : ¬ a = b := by simpa [eqB] using h
theorem eqB_yes {α : Type} [DecidableEq α] {a b : α} (h : eqB a b = true) : a = b := by simpa [eqB] using h
set_option maxRecDepth 10000 in
set_option maxHeartbeats 800000 in
theorem hasRule_any (A B : Option Addr) (n k m l : Nat) (rs : List Rule) (y : Rule) (w : World) (hn : rs.length = n) (hm : y.c.length = m) (hx : Rules w w.heap.size A rs) (hy : Seq w w.heap.size B y.c) (hmax : n < 2 ^ 40) :
    Calls Tryz.prog 36 #[.slice A n k, .agg #[.string y.p, .slice B m l, .int .u8 y.l, .int .u8 y.r, .int .i64 y.f, .int .i64 y.t]] w fun e w' => e = .returned (.bool (memB y rs)) ∧ Below w.heap.size w w' := by
  have HN := Lib.hid hn
  have HM := Lib.hid hm
  clear hn hm
  go_enter Tryz.func36, Tryz.ntmps36
  go_wp2
  have hbx : Hid (Below w.heap.size w (w.alloc (.cells #[.string y.p, .slice B m l, .int .u8 y.l, .int .u8 y.r, .int .i64 y.f, .int .i64 y.t] 43))) := below_box w _ _
  have hR := hx.up hbx.out
  have hY := hy.up hbx.out
  have hblk : Blk (w.alloc (.cells #[.string y.p, .slice B m l, .int .u8 y.l, .int .u8 y.r, .int .i64 y.f, .int .i64 y.t] 43)) w.heap.size 43 #[.string y.p, .slice B m l, .int .u8 y.l, .int .u8 y.r, .int .i64 y.f, .int .i64 y.t] := Blk.new _ _ _
  have hsz : w.heap.size < (w.alloc (.cells #[.string y.p, .slice B m l, .int .u8 y.l, .int .u8 y.r, .int .i64 y.f, .int .i64 y.t] 43)).heap.size := by simp
  generalize hW : w.alloc (.cells #[.string y.p, .slice B m l, .int .u8 y.l, .int .u8 y.r, .int .i64 y.f, .int .i64 y.t] 43) = W at *
  clear hW
  go_loopw [9] (fun i wr => ∃ j : Nat, j ≤ n ∧ i = .int .i64 j ∧ (∀ i, i < j → ¬ rs[i]? = some y) ∧ Below W.heap.size W wr) (fun i _ => n - (intOf i).toNat)
  case atStart => exact ⟨0, by omega, rfl, fun i h => absurd h (by omega), Below.refl _ _⟩
  case round =>
    obtain ⟨j, hj, rfl, hto, hb⟩ := hrel
    have HTO := Lib.hid hto
    clear hto
    by_cases hlt : j < n
    · obtain ⟨b, o, e1, hB1, hc⟩ := hR (by have := HN.out; omega)
      subst e1
      obtain ⟨A', k', d0, d1, d2, d3, d4, d5, hs, hf⟩ := (hc j (by have := HN.out; omega)).keep hB1 hb
      have HY : Hid (rs[j]? = some (rs[j]'(by have := HN.out; omega))) := List.getElem?_eq_getElem _
      clear hc hR hx
      generalize rs[j]'(by have := HN.out; omega) = x at *
      have hblk2 := hblk.keep hb hsz
      have f0 := hblk2.cell 0
      have f1 := hblk2.cell 1
      have f2 := hblk2.cell 2
      have f3 := hblk2.cell 3
      have f4 := hblk2.cell 4
      have f5 := hblk2.cell 5
      simp at f0 f1 f2 f3 f4 f5
      have hj0 : (0 : Int) ≤ (j : Int) := by omega
      have hjn : (j : Int) < (n : Int) := by omega
      have hsz2 := hb.size
      have HB := Lib.hid hb
      have HS := Lib.hid hs
      have HF := Lib.hid hf
      clear hb hs hf hblk2
      have hlt3 : w.heap.size < wr.heap.size := by omega
      go_wp2_with fail
      have hbz : Hid (Below W.heap.size W (wr.alloc (.cells #[.string x.p, .slice A' x.c.length k', .int .u8 x.l, .int .u8 x.r, .int .i64 x.f, .int .i64 x.t] 43))) := HB.out.alloc hsz2 _
      have hbw : Hid (Below wr.heap.size wr (wr.alloc (.cells #[.string x.p, .slice A' x.c.length k', .int .u8 x.l, .int .u8 x.r, .int .i64 x.f, .int .i64 x.t] 43))) := below_box _ _ _
      refine (equal_any A' B _ m k' l x y _ rfl HM.out ((HS.out.keep (hbw.out.mono hsz2)).more (by have := hbw.out.size; omega)) (hY.keep hbz.out |>.more hbz.out.size) HF.out.2.1).mono ?_
      rintro e w1 ⟨rfl, hb1⟩
      have HB1 := Lib.hid (below_next hbz.out hb1)
      clear hb1
      obtain ⟨v, hv⟩ : ∃ v, eqB x y = v := ⟨_, rfl⟩
      rw [hv]
      have HV := Lib.hid hv
      clear hv
      cases v
      · go_wp2
        exact ⟨⟨j + 1, by omega, by go_num, notin_step HTO.out HY.out (eqB_no HV.out), HB1.out⟩, by simp [intOf]; omega⟩
      · go_wp2
        go_ret
        exact ⟨ret_bool (memB_yes (j := j) (by rw [HY.out, eqB_yes HV.out])).symm, below_next hbx.out HB1.out⟩
    · have : j = n := by omega
      subst this
      have HB := Lib.hid hb
      clear hb
      go_wp2
      go_ret
      exact ⟨ret_bool (memB_no HN.out HTO.out).symm, below_next hbx.out HB.out⟩

theorem pow_wrap (m : Int) (h1 : 1 ≤ m) (h2 : m ≤ 8) : IntKind.i64.wrap (2 ^ m.toNat) = 2 ^ m.toNat := by
  have h := allB_int (n := 9) (p := fun m => decide (IntKind.i64.wrap (2 ^ m) = 2 ^ m)) (by decide +kernel) m (by omega) (by omega)
  exact of_decide_eq_true h
theorem nums_ways (m a : Int) (n : Nat) (P : Int) (hP : IntKind.i64.wrap (2 ^ m.toNat) = P) :
    (decide (1 ≤ m) = false ∧ numsB m a n = false) ∨ (1 ≤ m ∧ decide (m ≤ 8) = false ∧ numsB m a n = false) ∨ (1 ≤ m ∧ m ≤ 8 ∧ (a != 0) = false ∧ numsB m a n = false) ∨ (1 ≤ m ∧ m ≤ 8 ∧ (a != 0) = true ∧ decide (a < P) = false ∧ numsB m a n = false) ∨ (1 ≤ m ∧ m ≤ 8 ∧ (a != 0) = true ∧ a < P ∧ decide (1 ≤ (n : Int)) = false ∧ numsB m a n = false) ∨ (1 ≤ m ∧ m ≤ 8 ∧ (a != 0) = true ∧ a < P ∧ (1 : Int) ≤ (n : Int) ∧ decide ((n : Int) ≤ 64) = false ∧ numsB m a n = false) ∨ (1 ≤ m ∧ m ≤ 8 ∧ (a != 0) = true ∧ a < P ∧ (1 : Int) ≤ (n : Int) ∧ (n : Int) ≤ 64 ∧ numsB m a n = true) := by
  unfold numsB
  by_cases h1 : 1 ≤ m
  · by_cases h2 : m ≤ 8
    · rw [pow_wrap m h1 h2] at hP
      rw [hP]
      by_cases h3 : a = 0
      · simp [h1, h2, h3]
      · by_cases h4 : a < P
        · by_cases h5 : (1 : Int) ≤ (n : Int)
          · by_cases h6 : (n : Int) ≤ 64
            · simp [h1, h2, h3, h4, h5, h6]
            · simp [h1, h2, h3, h4, h5, h6]
          · simp [h1, h2, h3, h4, h5]
        · simp [h1, h2, h3, h4]
    · simp [h1, h2]
  · simp [h1]
set_option maxRecDepth 10000 in
set_option maxHeartbeats 2000000 in
theorem soundNumbers_any (A : Option Addr) (n k : Nat) (m a : Int) (w : World) (_hn : n < 2 ^ 47) (ha : 0 ≤ a ∧ a < 256) :
    Calls Tryz.prog 34 #[.agg #[.int .i64 m, .int .u8 a, .slice A n k]] w fun e w' => e = .returned (.bool (numsB m a n)) ∧ Below w.heap.size w w' := by
  have hbx : Hid (Below w.heap.size w (w.alloc (.cells #[.int .i64 m, .int .u8 a, .slice A n k] 28))) := below_box _ _ _
  have hblk : Blk (w.alloc (.cells #[.int .i64 m, .int .u8 a, .slice A n k] 28)) w.heap.size 28 #[.int .i64 m, .int .u8 a, .slice A n k] := Blk.new _ _ _
  obtain ⟨P, hP⟩ : ∃ P : Int, IntKind.i64.wrap (2 ^ m.toNat) = P := ⟨_, rfl⟩
  rcases nums_ways m a n P hP with ⟨h1, hv⟩ | ⟨h1, h2, hv⟩ | ⟨h1, h2, h3, hv⟩ | ⟨h1, h2, h3, h4, hv⟩ | ⟨h1, h2, h3, h4, h5, hv⟩ | ⟨h1, h2, h3, h4, h5, h6, hv⟩ | ⟨h1, h2, h3, h4, h5, h6, hv⟩
  all_goals
    try (have hm0 : 0 ≤ m := by omega)
    try (have hml : m ≤ 64 := by omega)
    rw [hv]
    have HV := Lib.hid hv
    clear hv
    go_enter Tryz.func34, Tryz.ntmps34
    go_wp2
    generalize w.alloc (.cells #[.int .i64 m, .int .u8 a, .slice A n k] 28) = W at *
    have f0 := hblk.cell 0
    have f1 := hblk.cell 1
    have f2 := hblk.cell 2
    simp at f0 f1 f2
    clear hblk
    go_quiet (fail)
    go_wp2
    go_ret
    exact ⟨rfl, below_dN hbx.out⟩
end Go.Proofs.YtiedaongfjcbhabGreatDoor
