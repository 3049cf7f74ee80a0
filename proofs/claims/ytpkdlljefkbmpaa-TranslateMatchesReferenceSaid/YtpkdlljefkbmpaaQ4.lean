/- Merged by program: Fmt1 Fmt2 Tab9 Tab10 Fmt3 Fmt4 -/
import Derived.Test.YtpkdlljefkbmpaaQ1
import Derived.Test.YtpkdlljefkbmpaaQ3
import Derived.StillTailTactics
import Derived.OwnWalk
import Derived.Lib.Join
import Derived.Deep.RegionHeld3
import Derived.Deep.RegionWith
import Derived.Lib.ItoaLen

/-! Package table: formatPrint, formatCells. -/
namespace Go.Proofs.Ytpkdlljefkbmpaa
open Go.RowKit

theorem add_zero_addr (b j : Nat) : (⟨b, 0, none⟩ : Addr).add j = ⟨b, j, none⟩ := by unfold Addr.add; split <;> simp_all
section
variable {P : Program} {ops : Array Oper}
theorem step_append_own {w : World} {o : Oper} {a : Act} {K : Act → World → Prop} {Q : Exit → Act → World → Prop} {E : Prop} (hgd : o.guard = none) (s x : Operand) (t : TypeId)
  (ho : o.op = .call { callee := .builtin .append, args := #[s, x], argTypes := #[t, t] })
  (base : Nat) (e : TypeId) (i : TypeInfo) (z : Value) (size bytes : Nat) (ht : P.underlying t = some (.slice e)) (hi : P.info? e = some i) (hz : i.zero = some z)
  (hsize : i.size = size) (hby : i.bytes = bytes) (hzs : z.cells.size = size) (hsz : 0 < size)
  (v : Value) (n : Nat) (xs : List Value) (hs : a.eval s = v) (hown : w.ownsRow base e size v n xs)
  (ad : Addr) (m c : Nat) (news : List Value) (hx : a.eval x = .slice (some ad) m c) (hl : news.length = m * size) (hnews : ∀ j u, news[j]? = some u → w.cell? (ad.add j) = some u) (h1 : ∀ u ∈ news, u.oneCell' = true)
  (h63 : n + m ≤ maxLen) (hbytes : (n + m) * bytes ≤ 140737488355328) (hbase : base ≤ w.heap.size)
  (h : ∀ v' w', w'.ownsRow base e size v' (n + m) (xs ++ news) → w.grownBy w' v.ownBlock → K (a.put o.dst v') w') :
  if Region.wanted o (yielded ops a.tmps) = true then Oper.wp P o a w K Q else E := by
 have hw : Region.wanted o (yielded ops a.tmps) = true := by simp [Region.wanted, hgd]
 rw [if_pos hw]
 exact wp_append_own w s x t ho base e i z size bytes ht hi hz hsize hby hzs hsz v n xs hs hown ad m c news hx hl hnews h1 h63 hbytes hbase fun v' w' h2 h3 _ => h v' w' h2 h3
end
end Go.Proofs.Ytpkdlljefkbmpaa

/-! Package table: formatCells, formatRule. -/
namespace Go.Proofs.Ytpkdlljefkbmpaa
open Go.RowKit

end Go.Proofs.Ytpkdlljefkbmpaa

/-! Package table: lists of rules in memory; soundNumbers, hasRule. -/
namespace Go.Proofs.Ytpkdlljefkbmpaa
open Go.RowKit

def RuleAt (w : World) (B b o : Nat) (x : Rule) : Prop :=
 ∃ A k, w.cell? ⟨b, o, none⟩ = some (.string x.p) ∧ w.cell? ⟨b, o + 1, none⟩ = some (.slice A x.c.length k) ∧ w.cell? ⟨b, o + 2, none⟩ = some (.int .u8 x.l) ∧ w.cell? ⟨b, o + 3, none⟩ = some (.int .u8 x.r) ∧ w.cell? ⟨b, o + 4, none⟩ = some (.int .i64 x.f) ∧ w.cell? ⟨b, o + 5, none⟩ = some (.int .i64 x.t) ∧ Seq w B A x.c ∧ x.fits
def Rules (w : World) (B : Nat) (A : Option Addr) (rs : List Rule) : Prop :=
 0 < rs.length → ∃ b o : Nat, A = some ⟨b, o, none⟩ ∧ b < B ∧ ∀ j (h : j < rs.length), RuleAt w B b (o + j * 6) rs[j]
theorem RuleAt.keep {w w' : World} {B b o : Nat} {x : Rule} (h : RuleAt w B b o x) (hB : b < B) (hb : Below B w w') : RuleAt w' B b o x := by
 obtain ⟨A, k, h0, h1, h2, h3, h4, h5, hs, hf⟩ := h
 have key : ∀ i, w'.cell? ⟨b, i, none⟩ = w.cell? ⟨b, i, none⟩ := fun i => hb.cell (p := ⟨b, i, none⟩) hB
 exact ⟨A, k, (key _).trans h0, (key _).trans h1, (key _).trans h2, (key _).trans h3, (key _).trans h4, (key _).trans h5, hs.keep hb, hf⟩
theorem Rules.keep {w w' : World} {B : Nat} {A : Option Addr} {rs : List Rule} (h : Rules w B A rs) (hb : Below B w w') : Rules w' B A rs := fun hl => by
 obtain ⟨b, o, e, hB, hc⟩ := h hl
 exact ⟨b, o, e, hB, fun j hj => (hc j hj).keep hB hb⟩
theorem RuleAt.more {w : World} {B B' b o : Nat} {x : Rule} (h : RuleAt w B b o x) (hB : B ≤ B') : RuleAt w B' b o x := by
 obtain ⟨A, k, h0, h1, h2, h3, h4, h5, hs, hf⟩ := h
 exact ⟨A, k, h0, h1, h2, h3, h4, h5, hs.more hB, hf⟩
theorem Rules.more {w : World} {B B' : Nat} {A : Option Addr} {rs : List Rule} (h : Rules w B A rs) (hB : B ≤ B') : Rules w B' A rs := fun hl => by
 obtain ⟨b, o, e, hb, hc⟩ := h hl
 exact ⟨b, o, e, by omega, fun j hj => (hc j hj).more hB⟩
theorem Rules.up {w w' : World} {A : Option Addr} {rs : List Rule} (h : Rules w w.heap.size A rs) (hb : Below w.heap.size w w') : Rules w' w'.heap.size A rs := (h.keep hb).more hb.size
theorem Rules.take {w : World} {B : Nat} {A : Option Addr} {rs : List Rule} (h : Rules w B A rs) (k : Nat) : Rules w B A (rs.take k) := fun hl => by
 have hl' : 0 < rs.length := by have := List.length_take_le k rs; have := List.length_take_le' k rs; omega
 obtain ⟨b, o, e, hB, hc⟩ := h hl'
 exact ⟨b, o, e, hB, fun j hj => by rw [List.getElem_take]; exact hc j _⟩

def numsB (m a n : Int) : Bool := decide (1 ≤ m) && decide (m ≤ 8) && decide (a ≠ 0) && decide (a < 2 ^ m.toNat) && decide (1 ≤ n) && decide (n ≤ 64)

def memB (y : Rule) (rs : List Rule) : Bool := decide (y ∈ rs)
theorem memB_yes {rs : List Rule} {y : Rule} {j : Nat} (h : rs[j]? = some y) : memB y rs = true := by
 unfold memB; simp; exact List.mem_of_getElem? h
theorem memB_no {rs : List Rule} {y : Rule} {n : Nat} (hn : rs.length = n) (h : ∀ i, i < n → ¬ rs[i]? = some y) : memB y rs = false := by
 unfold memB; simp
 intro hm
 obtain ⟨i, hi, e⟩ := List.getElem_of_mem hm
 exact h i (by omega) (by rw [List.getElem?_eq_getElem hi, e])
theorem notin_step {α : Type} {xs : List α} {x y : α} {j : Nat} (h : ∀ i, i < j → ¬ xs[i]? = some x) (hy : xs[j]? = some y) (hne : ¬ y = x) : ∀ i, i < j + 1 → ¬ xs[i]? = some x := by
 intro i hi e
 rcases Nat.lt_or_ge i j with g | g
 ·
  exact h i g e
 ·
  obtain rfl : i = j := by omega
  rw [hy] at e; injection e with e; exact hne e
theorem eqB_no {α : Type} [DecidableEq α] {a b : α} (h : eqB a b = false) : ¬ a = b := by simpa [eqB] using h
theorem eqB_yes {α : Type} [DecidableEq α] {a b : α} (h : eqB a b = true) : a = b := by simpa [eqB] using h
set_option maxRecDepth 10000 in
set_option maxHeartbeats 800000 in
theorem hasRule_any (A B : Option Addr) (n k m l : Nat) (rs : List Rule) (y : Rule) (w : World) (hn : rs.length = n) (hm : y.c.length = m) (hx : Rules w w.heap.size A rs) (hy : Seq w w.heap.size B y.c) (hmax : n < 2 ^ 40) :
  Calls Try.prog 154 #[.slice A n k, .agg #[.string y.p, .slice B m l, .int .u8 y.l, .int .u8 y.r, .int .i64 y.f, .int .i64 y.t]] w fun e w' => e = .returned (.bool (memB y rs)) ∧ Below w.heap.size w w' := by
 have HN := Lib.hid hn
 have HM := Lib.hid hm
 clear hn hm
 go_enter Try.func154, Try.ntmps154
 go_wp2
 have hbx : Hid (Below w.heap.size w (w.alloc (.cells #[.string y.p, .slice B m l, .int .u8 y.l, .int .u8 y.r, .int .i64 y.f, .int .i64 y.t] 99))) := below_box w _ _
 have hR := hx.up hbx.out
 have hY := hy.up hbx.out
 have hblk : Blk (w.alloc (.cells #[.string y.p, .slice B m l, .int .u8 y.l, .int .u8 y.r, .int .i64 y.f, .int .i64 y.t] 99)) w.heap.size 99 #[.string y.p, .slice B m l, .int .u8 y.l, .int .u8 y.r, .int .i64 y.f, .int .i64 y.t] := Blk.new _ _ _
 have hsz : w.heap.size < (w.alloc (.cells #[.string y.p, .slice B m l, .int .u8 y.l, .int .u8 y.r, .int .i64 y.f, .int .i64 y.t] 99)).heap.size := by simp
 generalize hW : w.alloc (.cells #[.string y.p, .slice B m l, .int .u8 y.l, .int .u8 y.r, .int .i64 y.f, .int .i64 y.t] 99) = W at *
 clear hW
 go_loopw [9] (fun i wr => ∃ j : Nat, j ≤ n ∧ i = .int .i64 j ∧ (∀ i, i < j → ¬ rs[i]? = some y) ∧ Below W.heap.size W wr) (fun i _ => n - (intOf i).toNat)
 case atStart => exact ⟨0, by omega, rfl, fun i h => absurd h (by omega), Below.refl _ _⟩
 case round =>
  obtain ⟨j, hj, rfl, hto, hb⟩ := hrel
  have HTO := Lib.hid hto
  clear hto
  by_cases hlt : j < n
  ·
   obtain ⟨b, o, e1, hB1, hc⟩ := hR (by have := HN.out; omega)
   subst e1
   obtain ⟨A', k', d0, d1, d2, d3, d4, d5, hs, hf⟩ := (hc j (by have := HN.out; omega)).keep hB1 hb
   have HY : Hid (rs[j]? = some (rs[j]'(by have := HN.out; omega))) := List.getElem?_eq_getElem _
   clear hc hR hx
   generalize rs[j]'(by have := HN.out; omega) = x at *
   have hblk2 := hblk.keep hb hsz
   have f0 := hblk2.cell 0
   have f1 := hblk2.cell 1
   have f2 := hblk2.cell 2
   have f3 := hblk2.cell 3
   have f4 := hblk2.cell 4
   have f5 := hblk2.cell 5
   simp at f0 f1 f2 f3 f4 f5
   have hj0 : (0 : Int) ≤ (j : Int) := by omega
   have hjn : (j : Int) < (n : Int) := by omega
   have hsz2 := hb.size
   have HB := Lib.hid hb
   have HS := Lib.hid hs
   have HF := Lib.hid hf
   clear hb hs hf hblk2
   have hlt3 : w.heap.size < wr.heap.size := by omega
   go_wp2_with fail
   have hbz : Hid (Below W.heap.size W (wr.alloc (.cells #[.string x.p, .slice A' x.c.length k', .int .u8 x.l, .int .u8 x.r, .int .i64 x.f, .int .i64 x.t] 99))) := HB.out.alloc hsz2 _
   have hbw : Hid (Below wr.heap.size wr (wr.alloc (.cells #[.string x.p, .slice A' x.c.length k', .int .u8 x.l, .int .u8 x.r, .int .i64 x.f, .int .i64 x.t] 99))) := below_box _ _ _
   refine (equal_any A' B _ m k' l x y _ rfl HM.out ((HS.out.keep (hbw.out.mono hsz2)).more (by have := hbw.out.size; omega)) (hY.keep hbz.out |>.more hbz.out.size) HF.out.2.1).mono ?_
   rintro e w1 ⟨rfl, hb1⟩
   have HB1 := Lib.hid (below_next hbz.out hb1)
   clear hb1
   obtain ⟨v, hv⟩ : ∃ v, eqB x y = v := ⟨_, rfl⟩
   rw [hv]
   have HV := Lib.hid hv
   clear hv
   cases v
   ·
    go_wp2
    exact ⟨⟨j + 1, by omega, by go_num, notin_step HTO.out HY.out (eqB_no HV.out), HB1.out⟩, by simp [intOf]; omega⟩
   ·
    go_wp2
    go_ret
    exact ⟨ret_bool (memB_yes (j := j) (by rw [HY.out, eqB_yes HV.out])).symm, below_next hbx.out HB1.out⟩
  ·
   have : j = n := by omega
   subst this
   have HB := Lib.hid hb
   clear hb
   go_wp2
   go_ret
   exact ⟨ret_bool (memB_no HN.out HTO.out).symm, below_next hbx.out HB.out⟩

theorem pow_wrap (m : Int) (h1 : 1 ≤ m) (h2 : m ≤ 8) : IntKind.i64.wrap (2 ^ m.toNat) = 2 ^ m.toNat := by
 have h := allB_int (n := 9) (p := fun m => decide (IntKind.i64.wrap (2 ^ m) = 2 ^ m)) (by decide +kernel) m (by omega) (by omega)
 exact of_decide_eq_true h
theorem nums_ways (m a : Int) (n : Nat) (P : Int) (hP : IntKind.i64.wrap (2 ^ m.toNat) = P) :
  (decide (1 ≤ m) = false ∧ numsB m a n = false) ∨ (1 ≤ m ∧ decide (m ≤ 8) = false ∧ numsB m a n = false) ∨ (1 ≤ m ∧ m ≤ 8 ∧ (a != 0) = false ∧ numsB m a n = false) ∨ (1 ≤ m ∧ m ≤ 8 ∧ (a != 0) = true ∧ decide (a < P) = false ∧ numsB m a n = false) ∨ (1 ≤ m ∧ m ≤ 8 ∧ (a != 0) = true ∧ a < P ∧ decide (1 ≤ (n : Int)) = false ∧ numsB m a n = false) ∨ (1 ≤ m ∧ m ≤ 8 ∧ (a != 0) = true ∧ a < P ∧ (1 : Int) ≤ (n : Int) ∧ decide ((n : Int) ≤ 64) = false ∧ numsB m a n = false) ∨ (1 ≤ m ∧ m ≤ 8 ∧ (a != 0) = true ∧ a < P ∧ (1 : Int) ≤ (n : Int) ∧ (n : Int) ≤ 64 ∧ numsB m a n = true) := by
 unfold numsB
 by_cases h1 : 1 ≤ m
 ·
  by_cases h2 : m ≤ 8
  ·
   rw [pow_wrap m h1 h2] at hP
   rw [hP]
   by_cases h3 : a = 0
   ·
    simp [h1, h2, h3]
   ·
    by_cases h4 : a < P
    ·
     by_cases h5 : (1 : Int) ≤ (n : Int)
     ·
      by_cases h6 : (n : Int) ≤ 64
      ·
       simp [h1, h2, h3, h4, h5, h6]
      ·
       simp [h1, h2, h3, h4, h5, h6]
     ·
      simp [h1, h2, h3, h4, h5]
    ·
     simp [h1, h2, h3, h4]
  ·
   simp [h1, h2]
 ·
  simp [h1]
set_option maxRecDepth 10000 in
set_option maxHeartbeats 2000000 in
theorem soundNumbers_any (A : Option Addr) (n k : Nat) (m a : Int) (w : World) (_hn : n < 2 ^ 47) (ha : 0 ≤ a ∧ a < 256) :
  Calls Try.prog 152 #[.agg #[.int .i64 m, .int .u8 a, .slice A n k]] w fun e w' => e = .returned (.bool (numsB m a n)) ∧ Below w.heap.size w w' := by
 have hbx : Hid (Below w.heap.size w (w.alloc (.cells #[.int .i64 m, .int .u8 a, .slice A n k] 30))) := below_box _ _ _
 have hblk : Blk (w.alloc (.cells #[.int .i64 m, .int .u8 a, .slice A n k] 30)) w.heap.size 30 #[.int .i64 m, .int .u8 a, .slice A n k] := Blk.new _ _ _
 obtain ⟨P, hP⟩ : ∃ P : Int, IntKind.i64.wrap (2 ^ m.toNat) = P := ⟨_, rfl⟩
 rcases nums_ways m a n P hP with ⟨h1, hv⟩ | ⟨h1, h2, hv⟩ | ⟨h1, h2, h3, hv⟩ | ⟨h1, h2, h3, h4, hv⟩ | ⟨h1, h2, h3, h4, h5, hv⟩ | ⟨h1, h2, h3, h4, h5, h6, hv⟩ | ⟨h1, h2, h3, h4, h5, h6, hv⟩
 all_goals
  try (have hm0 : 0 ≤ m := by omega)
  try (have hml : m ≤ 64 := by omega)
  rw [hv]
  have HV := Lib.hid hv
  clear hv
  go_enter Try.func152, Try.ntmps152
  go_wp2
  generalize w.alloc (.cells #[.int .i64 m, .int .u8 a, .slice A n k] 30) = W at *
  have f0 := hblk.cell 0
  have f1 := hblk.cell 1
  have f2 := hblk.cell 2
  simp at f0 f1 f2
  clear hblk
  go_quiet (fail)
  go_wp2
  go_ret
  exact ⟨rfl, below_dN hbx.out⟩
end Go.Proofs.Ytpkdlljefkbmpaa

/-! Package table: Check, Valid. -/
namespace Go.Proofs.Ytpkdlljefkbmpaa
open Go.RowKit

def firstB (p : Nat → Bool) (n : Nat) : Option Nat := (List.range n).find? p
theorem firstB_yes {p : Nat → Bool} {n i : Nat} (h : ∀ j, j < i → p j = false) (hp : p i = true) (hi : i < n) : firstB p n = some i := by
 unfold firstB
 rw [List.find?_range_eq_some]
 exact ⟨hp, List.mem_range.2 hi, fun j hj => by simp [h j hj]⟩
theorem firstB_no {p : Nat → Bool} {n : Nat} (h : ∀ j, j < n → p j = false) : firstB p n = none := by
 unfold firstB
 rw [List.find?_eq_none]
 intro x hx
 simp [h x (List.mem_range.1 hx)]
theorem below_step {p : Nat → Bool} {j : Nat} (h : ∀ i, i < j → p i = false) (hp : p j = false) : ∀ i, i < j + 1 → p i = false := fun i hi => by
 rcases Nat.lt_or_ge i j with g | g
 ·
  exact h i g
 ·
  obtain rfl : i = j := by omega
  exact hp
def badAt (m : Int) (rs : List Rule) (j : Nat) : Bool := match rs[j]? with
 | some x => !soundB x m || memB x (rs.take j)
 | none => false
theorem badAt_at {m : Int} {rs : List Rule} {j : Nat} {x : Rule} (h : rs[j]? = some x) : badAt m rs j = (!soundB x m || memB x (rs.take j)) := by
 unfold badAt; rw [h]
def chkI (m a : Int) (rs : List Rule) : Int := if numsB m a rs.length then (match firstB (badAt m rs) rs.length with | some i => (i : Nat) | none => 0) else -1
def chkE (m a : Int) (rs : List Rule) : Int := if numsB m a rs.length then (match firstB (badAt m rs) rs.length with | some _ => 20 | none => 0) else 1
theorem chk_nums {m a : Int} {rs : List Rule} (h : numsB m a rs.length = false) : chkI m a rs = -1 ∧ chkE m a rs = 1 := by
 unfold chkI chkE; rw [h]; exact ⟨rfl, rfl⟩
theorem chk_bad {m a : Int} {rs : List Rule} {i : Nat} (hn : numsB m a rs.length = true) (h : ∀ j, j < i → badAt m rs j = false) (hp : badAt m rs i = true) (hi : i < rs.length) : chkI m a rs = i ∧ chkE m a rs = 20 := by
 unfold chkI chkE; rw [hn, firstB_yes h hp hi]; exact ⟨rfl, rfl⟩
theorem chk_ok {m a : Int} {rs : List Rule} (hn : numsB m a rs.length = true) (h : ∀ j, j < rs.length → badAt m rs j = false) : chkI m a rs = 0 ∧ chkE m a rs = 0 := by
 unfold chkI chkE; rw [hn, firstB_no h]; exact ⟨rfl, rfl⟩
theorem keepC {w w' : World} {B : Nat} (hb : Below B w w') {b o : Nat} {v : Value} (h : w.cell? ⟨b, o, none⟩ = some v) (hB : b < B) : w'.cell? ⟨b, o, none⟩ = some v := (hb.cell (p := ⟨b, o, none⟩) hB).trans h
theorem keepS {V w' w'' : World} {g h : Nat} {p : ByteArray} {A E : Option Addr} {c k n q : Nat} {l r f t m : Int} (hb : Below w'.heap.size w' w'')
  (H : Below V.heap.size V w' ∧ g < w'.heap.size ∧ h < w'.heap.size ∧ w'.cell? ⟨g, 0, none⟩ = some (.string p) ∧ w'.cell? ⟨g, 1, none⟩ = some (.slice A c k) ∧ w'.cell? ⟨g, 2, none⟩ = some (.int .u8 l) ∧ w'.cell? ⟨g, 3, none⟩ = some (.int .u8 r) ∧ w'.cell? ⟨g, 4, none⟩ = some (.int .i64 f) ∧ w'.cell? ⟨g, 5, none⟩ = some (.int .i64 t) ∧ w'.cell? ⟨h, 0, none⟩ = some (.int .i64 m) ∧ w'.cell? ⟨h, 2, none⟩ = some (.slice E n q)) :
  Below V.heap.size V w'' ∧ g < w''.heap.size ∧ h < w''.heap.size ∧ w''.cell? ⟨g, 0, none⟩ = some (.string p) ∧ w''.cell? ⟨g, 1, none⟩ = some (.slice A c k) ∧ w''.cell? ⟨g, 2, none⟩ = some (.int .u8 l) ∧ w''.cell? ⟨g, 3, none⟩ = some (.int .u8 r) ∧ w''.cell? ⟨g, 4, none⟩ = some (.int .i64 f) ∧ w''.cell? ⟨g, 5, none⟩ = some (.int .i64 t) ∧ w''.cell? ⟨h, 0, none⟩ = some (.int .i64 m) ∧ w''.cell? ⟨h, 2, none⟩ = some (.slice E n q) := by
 obtain ⟨h1, h2, h3, a0, a1, a2, a3, a4, a5, b0, b2⟩ := H
 have hs := hb.size
 exact ⟨h1.trans (hb.mono (by have := h1.size; omega)), by omega, by omega, keepC hb a0 h2, keepC hb a1 h2, keepC hb a2 h2, keepC hb a3 h2, keepC hb a4 h2, keepC hb a5 h2, keepC hb b0 h3, keepC hb b2 h3⟩

theorem below_drew_next {a V w2 : World} (h : Below a.heap.size a V) (hb : Below V.drew.heap.size V.drew w2) : Below a.heap.size a w2 := (Below.drew h).trans (hb.mono h.size)
section
variable {P : Program} {ops : Array Oper} {Q : Exit → Act → World → Prop} {md : Region.Mode} {S : World → Prop}
theorem wpAnyH_skip {i : Nat} {oi : Oper} {fuel : Nat} {listed : Array Bool} {a : Act} {w : World} (hi : ops[i]? = some oi)
  (hs : Region.noSelect ops = true) (hf : Region.free md ops listed i = true) (hr : (Region.ready md ops listed).contains i = true)
  (hQ : ∀ c a w, Q (.panic c) (a.put oi.dst undef) w → Q (.panic c) a w) (hw : Region.wanted oi (yielded ops a.tmps) = false) (hS : S w)
  (h : wpAnyH P md ops Q S fuel (listed.setIfInBounds i true) (a.put oi.dst undef) w) : wpAnyH P md ops Q S (fuel + 1) listed a w :=
 wpAnyH_take hi hs hf hr hQ (Or.inr ⟨hw, rfl⟩) hS h
end

set_option maxRecDepth 10000 in
set_option maxHeartbeats 4000000 in
theorem check_any (A : Option Addr) (n k : Nat) (m a : Int) (rs : List Rule) (w : World) (hn : rs.length = n) (hx : Rules w w.heap.size A rs) (hmax : n < 2 ^ 40) (hcap : n ≤ k) (ha : 0 ≤ a ∧ a < 256) :
  Calls Try.prog 117 #[.agg #[.int .i64 m, .int .u8 a, .slice A n k]] w fun e w' => e = .returned (.tuple #[.int .i64 (chkI m a rs), .int .i64 (chkE m a rs)]) ∧ Below w.heap.size w w' := by
 have HN := Lib.hid hn
 have hbx : Hid (Below w.heap.size w (w.alloc (.cells #[.int .i64 m, .int .u8 a, .slice A n k] 30))) := below_box _ _ _
 have hblk : Blk (w.alloc (.cells #[.int .i64 m, .int .u8 a, .slice A n k] 30)) w.heap.size 30 #[.int .i64 m, .int .u8 a, .slice A n k] := Blk.new _ _ _
 have hR := hx.up hbx.out
 have hsz : w.heap.size < (w.alloc (.cells #[.int .i64 m, .int .u8 a, .slice A n k] 30)).heap.size := by simp
 clear hn hx
 obtain ⟨v, hv⟩ : ∃ v, numsB m a n = v := ⟨_, rfl⟩
 have HV := Lib.hid hv
 clear hv
 go_enter Try.func117, Try.ntmps117
 go_wp2_with fail
 generalize w.alloc (.cells #[.int .i64 m, .int .u8 a, .slice A n k] 30) = W at *
 refine (soundNumbers_any A n k m a _ (by omega) ha).mono ?_
 rintro e w1 ⟨rfl, hb1⟩
 rw [HV.out]
 replace hblk := hblk.keep hb1 hsz
 replace hR := hR.up hb1
 replace hsz : w.heap.size < w1.heap.size := by have := hb1.size; omega
 replace hbx : Hid (Below w.heap.size w w1) := hbx.out.trans (hb1.mono (by have := hbx.out.size; omega))
 clear hb1
 cases v
 ·
  go_wp2
  go_ret2
  obtain ⟨e1, e2⟩ := chk_nums (m := m) (a := a) (rs := rs) (by rw [HN.out]; exact HV.out)
  exact ⟨ret_two (by rw [e1]) (by rw [e2]), hbx.out⟩
 ·
  have f2 := hblk.cell 2
  simp at f2
  go_wp2_with fail
  go_loopw [12] (fun i wr => ∃ j : Nat, j ≤ n ∧ i = .int .i64 j ∧ (∀ i, i < j → badAt m rs i = false) ∧ Below w1.heap.size w1 wr) (fun i _ => n - (intOf i).toNat)
  case atStart => exact ⟨0, by omega, rfl, fun i h => absurd h (by omega), Below.refl _ _⟩
  case round =>
   obtain ⟨j, hj, rfl, hto, hb⟩ := hrel
   have HTO := Lib.hid hto
   clear hto
   by_cases hlt : j < n
   ·
    obtain ⟨b, o, e1, hB1, hc⟩ := hR (by have := HN.out; omega)
    subst e1
    obtain ⟨A', k', d0, d1, d2, d3, d4, d5, hs, hf⟩ := (hc j (by have := HN.out; omega)).keep hB1 hb
    have HY : Hid (rs[j]? = some (rs[j]'(by have := HN.out; omega))) := List.getElem?_eq_getElem _
    have HR := Lib.hid hR
    clear hc hR
    generalize rs[j]'(by have := HN.out; omega) = x at *
    have hblk2 := Lib.hid (hblk.keep hb hsz)
    have hj0 : (0 : Int) ≤ (j : Int) := by omega
    have hjn : (j : Int) < (n : Int) := by omega
    have hsz2 := hb.size
    have HB := Lib.hid hb
    have HS := Lib.hid hs
    have HF := Lib.hid hf
    clear hb hs hf f2
    have hlt3 : w.heap.size < wr.heap.size := by omega
    go_wp2_with fail
    have hbv : Hid (Below wr.heap.size wr (wr.alloc (.cells #[.string x.p, .slice A' x.c.length k', .int .u8 x.l, .int .u8 x.r, .int .i64 x.f, .int .i64 x.t] 99))) := below_box _ _ _
    have hS : (fun (V w' : World) (g : Nat) => Below V.heap.size V w' ∧ g < w'.heap.size ∧ w.heap.size < w'.heap.size ∧ w'.cell? ⟨g, 0, none⟩ = some (.string x.p) ∧ w'.cell? ⟨g, 1, none⟩ = some (.slice A' x.c.length k') ∧ w'.cell? ⟨g, 2, none⟩ = some (.int .u8 x.l) ∧ w'.cell? ⟨g, 3, none⟩ = some (.int .u8 x.r) ∧ w'.cell? ⟨g, 4, none⟩ = some (.int .i64 x.f) ∧ w'.cell? ⟨g, 5, none⟩ = some (.int .i64 x.t) ∧ w'.cell? ⟨w.heap.size, 0, none⟩ = some (.int .i64 m) ∧ w'.cell? ⟨w.heap.size, 2, none⟩ = some (.slice (some ⟨b, o, none⟩) n k)) (wr.alloc (.cells #[.string x.p, .slice A' x.c.length k', .int .u8 x.l, .int .u8 x.r, .int .i64 x.f, .int .i64 x.t] 99)) (wr.alloc (.cells #[.string x.p, .slice A' x.c.length k', .int .u8 x.l, .int .u8 x.r, .int .i64 x.f, .int .i64 x.t] 99)) wr.heap.size := by
     have hn' : Blk (wr.alloc (.cells #[.string x.p, .slice A' x.c.length k', .int .u8 x.l, .int .u8 x.r, .int .i64 x.f, .int .i64 x.t] 99)) wr.heap.size 99 #[.string x.p, .slice A' x.c.length k', .int .u8 x.l, .int .u8 x.r, .int .i64 x.f, .int .i64 x.t] := Blk.new _ _ _
     have ho := hblk2.out.keep hbv.out hlt3
     exact ⟨Below.refl _ _, hn'.lt, ho.lt, by rw [hn'.cell 0]; rfl, by rw [hn'.cell 1]; rfl, by rw [hn'.cell 2]; rfl, by rw [hn'.cell 3]; rfl, by rw [hn'.cell 4]; rfl, by rw [hn'.cell 5]; rfl, by rw [ho.cell 0]; rfl, by rw [ho.cell 2]; rfl⟩
    have HSV : Hid (Seq (wr.alloc (.cells #[.string x.p, .slice A' x.c.length k', .int .u8 x.l, .int .u8 x.r, .int .i64 x.f, .int .i64 x.t] 99)) (wr.alloc (.cells #[.string x.p, .slice A' x.c.length k', .int .u8 x.l, .int .u8 x.r, .int .i64 x.f, .int .i64 x.t] 99)).heap.size A' x.c) := Seq.up (HS.out.more hsz2) hbv.out
    have HRV : Hid (Rules (wr.alloc (.cells #[.string x.p, .slice A' x.c.length k', .int .u8 x.l, .int .u8 x.r, .int .i64 x.f, .int .i64 x.t] 99)) (wr.alloc (.cells #[.string x.p, .slice A' x.c.length k', .int .u8 x.l, .int .u8 x.r, .int .i64 x.f, .int .i64 x.t] 99)).heap.size (some ⟨b, o, none⟩) (rs.take j)) := (((HR.out.keep HB.out).more hsz2).up hbv.out).take j
    have HBV : Hid (Below w1.heap.size w1 (wr.alloc (.cells #[.string x.p, .slice A' x.c.length k', .int .u8 x.l, .int .u8 x.r, .int .i64 x.f, .int .i64 x.t] 99))) := HB.out.trans (hbv.out.mono hsz2)
    clear d0 d1 d2 d3 d4 d5 hblk hblk2 HS HR HB hbv
    generalize wr.alloc (.cells #[.string x.p, .slice A' x.c.length k', .int .u8 x.l, .int .u8 x.r, .int .i64 x.f, .int .i64 x.t] 99) = V at *
    generalize wr.heap.size = g at *
    have hjk : (j : Int) ≤ (k : Int) := by omega
    have hjk2 : j ≤ k := by omega
    have hl1 : x.p.size < 2 ^ 47 := HF.out.1
    have hl2 : x.c.length < 2 ^ 47 := HF.out.2.1
    have HTK : Hid ((rs.take j).length = j) := by unfold Hid; rw [List.length_take, HN.out]; omega
    obtain ⟨s1, hs1⟩ : ∃ s, soundB x m = s := ⟨_, rfl⟩
    obtain ⟨s2, hs2⟩ : ∃ s, memB x (rs.take j) = s := ⟨_, rfl⟩
    have S1 := Lib.hid hs1
    have S2 := Lib.hid hs2
    clear hs1 hs2
    cases s1
    ·
     refine wp_region_held_drew (S := fun w' => Below V.heap.size V w' ∧ g < w'.heap.size ∧ w.heap.size < w'.heap.size ∧ w'.cell? ⟨g, 0, none⟩ = some (.string x.p) ∧ w'.cell? ⟨g, 1, none⟩ = some (.slice A' x.c.length k') ∧ w'.cell? ⟨g, 2, none⟩ = some (.int .u8 x.l) ∧ w'.cell? ⟨g, 3, none⟩ = some (.int .u8 x.r) ∧ w'.cell? ⟨g, 4, none⟩ = some (.int .i64 x.f) ∧ w'.cell? ⟨g, 5, none⟩ = some (.int .i64 x.t) ∧ w'.cell? ⟨w.heap.size, 0, none⟩ = some (.int .i64 m) ∧ w'.cell? ⟨w.heap.size, 2, none⟩ = some (.slice (some ⟨b, o, none⟩) n k)) (by kernel_rfl) (keepS (Below.drew (Below.refl _ _)) hS) (fun hS0 => ?_)
     refine wpAnyH_take (i := 0) (v := ?_) rfl (by kernel_rfl) (by kernel_rfl) (by kernel_rfl) (fun _ _ _ h => h) (Or.inl ⟨rfl, ?_⟩) hS0 ?_
     rotate_left
     ·
      (intro W2 hSw; (try dsimp only at hSw); go_simp; try with_reducible rfl)
     refine wpAnyH_take (i := 1) (v := ?_) rfl (by kernel_rfl) (by kernel_rfl) (by kernel_rfl) (fun _ _ _ h => h) (Or.inl ⟨rfl, ?_⟩) hS0 ?_
     rotate_left
     ·
      (intro W2 hSw; (try dsimp only at hSw); go_simp; try with_reducible rfl)
     refine wpAnyH_take (i := 2) (v := ?_) rfl (by kernel_rfl) (by kernel_rfl) (by kernel_rfl) (fun _ _ _ h => h) (Or.inl ⟨rfl, ?_⟩) hS0 ?_
     rotate_left
     ·
      (intro W2 hSw; (try dsimp only at hSw); go_simp; try with_reducible rfl)
     refine wpAnyH_ready (rs := [3]) (by kernel_rfl) (by simp) ?_
     refine AllReadyH.cons rfl (fun K hK => ?_) AllReadyH.nil
     go_simp
     refine (sound_any A' _ k' x m _ rfl (by exact HSV.out) hl1 hl2).mono ?_
     rintro e w2 ⟨rfl, hb2⟩
     rw [S1.out]
     refine hK.out _ _ (keepS hb2 hS0) (fun hS2 => ?_)
     clear hK K
     refine wpAnyH_take (i := 4) (v := ?_) rfl (by kernel_rfl) (by kernel_rfl) (by kernel_rfl) (fun _ _ _ h => h) (Or.inl ⟨by kernel_rfl, ?_⟩) hS2 ?_
     rotate_left
     ·
      (intro W2 hSw; (try dsimp only at hSw); go_simp; try with_reducible rfl)
     refine wpAnyH_take (i := 5) (v := ?_) rfl (by kernel_rfl) (by kernel_rfl) (by kernel_rfl) (fun _ _ _ h => h) (Or.inl ⟨by kernel_rfl, ?_⟩) hS2 ?_
     rotate_left
     ·
      (intro W2 hSw; (try dsimp only at hSw); go_simp; try with_reducible rfl)
     refine wpAnyH_skip (i := 6) rfl (by kernel_rfl) (by kernel_rfl) (by kernel_rfl) (fun _ _ _ h => h) (by kernel_rfl) hS2 ?_
     refine wpAnyH_skip (i := 7) rfl (by kernel_rfl) (by kernel_rfl) (by kernel_rfl) (fun _ _ _ h => h) (by kernel_rfl) hS2 ?_
     refine wpAnyH_skip (i := 8) rfl (by kernel_rfl) (by kernel_rfl) (by kernel_rfl) (fun _ _ _ h => h) (by kernel_rfl) hS2 ?_
     refine wpAnyH_skip (i := 9) rfl (by kernel_rfl) (by kernel_rfl) (by kernel_rfl) (fun _ _ _ h => h) (by kernel_rfl) hS2 ?_
     refine wpAnyH_skip (i := 10) rfl (by kernel_rfl) (by kernel_rfl) (by kernel_rfl) (fun _ _ _ h => h) (by kernel_rfl) hS2 ?_
     refine wpAnyH_skip (i := 11) rfl (by kernel_rfl) (by kernel_rfl) (by kernel_rfl) (fun _ _ _ h => h) (by kernel_rfl) hS2 ?_
     refine wpAnyH_take (i := 12) (v := ?_) rfl (by kernel_rfl) (by kernel_rfl) (by kernel_rfl) (fun _ _ _ h => h) (Or.inl ⟨by kernel_rfl, ?_⟩) hS2 ?_
     rotate_left
     ·
      (intro W2 hSw; (try dsimp only at hSw); go_simp; try with_reducible rfl)
     refine wpAnyH_done (by kernel_rfl) ?_ _
     have HBW := Lib.hid (below_drew_next HBV.out hb2)
     clear hS0 hS2 hb2
     dsimp [Act.put]
     simp only [List.setIfInBounds_toArray, List.set_cons_zero, List.set_cons_succ]
     go_wp2
     go_ret2
     have hbad : badAt m rs j = true := by rw [badAt_at HY.out, S1.out]; rfl
     obtain ⟨e1, e2⟩ := chk_bad (a := a) (rs := rs) (by rw [HN.out]; exact HV.out) HTO.out hbad (by rw [HN.out]; exact hlt)
     exact ⟨ret_two (by rw [e1]) (by rw [e2]), below_next hbx.out HBW.out⟩
    ·
     go_region_held3 (fun w' => Below V.heap.size V w' ∧ g < w'.heap.size ∧ w.heap.size < w'.heap.size ∧ w'.cell? ⟨g, 0, none⟩ = some (.string x.p) ∧ w'.cell? ⟨g, 1, none⟩ = some (.slice A' x.c.length k') ∧ w'.cell? ⟨g, 2, none⟩ = some (.int .u8 x.l) ∧ w'.cell? ⟨g, 3, none⟩ = some (.int .u8 x.r) ∧ w'.cell? ⟨g, 4, none⟩ = some (.int .i64 x.f) ∧ w'.cell? ⟨g, 5, none⟩ = some (.int .i64 x.t) ∧ w'.cell? ⟨w.heap.size, 0, none⟩ = some (.int .i64 m) ∧ w'.cell? ⟨w.heap.size, 2, none⟩ = some (.slice (some ⟨b, o, none⟩) n k)) (first | assumption | (apply keepS; (first | assumption | exact Below.drew (Below.refl _ _)); assumption))
      (first | (go_at_call 153; refine (sound_any A' _ k' x m _ rfl (by first | exact HSV.out | exact HSV.out.up (by assumption) | exact (show Seq V.drew V.drew.heap.size A' x.c from HSV.out).up (by assumption)) hl1 hl2).mono ?_; rintro e w2 ⟨rfl, hb2⟩; rw [S1.out]) | (go_at_call 154; refine (hasRule_any (some ⟨b, o, none⟩) A' _ k _ k' (rs.take j) x _ HTK.out rfl (by first | exact HRV.out | exact HRV.out.up (by assumption) | exact (show Rules V.drew V.drew.heap.size _ (rs.take j) from HRV.out).up (by assumption)) (by first | exact HSV.out | exact HSV.out.up (by assumption) | exact (show Seq V.drew V.drew.heap.size A' x.c from HSV.out).up (by assumption)) (by omega)).mono ?_; rintro e w2 ⟨rfl, hb2⟩; rw [S2.out]))
     have hv : Below V.heap.size V w2 := And.left (by assumption)
     have HBW := Lib.hid (HBV.out.trans (hv.mono HBV.out.size))
     clear hv
     cases s2
     ·
      go_wp2
      have hbad : badAt m rs j = false := by rw [badAt_at HY.out, S1.out, S2.out]; rfl
      exact ⟨⟨j + 1, by omega, by go_num, below_step HTO.out hbad, HBW.out⟩, by simp [intOf]; omega⟩
     ·
      go_wp2
      go_ret2
      have hbad : badAt m rs j = true := by rw [badAt_at HY.out, S2.out]; simp
      obtain ⟨e1, e2⟩ := chk_bad (a := a) (rs := rs) (by rw [HN.out]; exact HV.out) HTO.out hbad (by rw [HN.out]; exact hlt)
      exact ⟨ret_two (by rw [e1]) (by rw [e2]), below_next hbx.out HBW.out⟩
   ·
    have : j = n := by omega
    subst this
    have HB := Lib.hid hb
    clear hb
    go_wp2
    go_ret2
    obtain ⟨e1, e2⟩ := chk_ok (a := a) (rs := rs) (by rw [HN.out]; exact HV.out) (by rw [HN.out]; exact HTO.out)
    exact ⟨ret_two (by rw [e1]) (by rw [e2]), below_next hbx.out HB.out⟩

theorem chkE_ok (m a : Int) (rs : List Rule) : (chkE m a rs == 0) = (numsB m a rs.length && (firstB (badAt m rs) rs.length).isNone) := by
 unfold chkE
 cases numsB m a rs.length
 ·
  rfl
 ·
  cases firstB (badAt m rs) rs.length <;> rfl
def validB (m a : Int) (rs : List Rule) : Bool := chkE m a rs == 0
theorem valid_table_any (A : Option Addr) (n k : Nat) (m a : Int) (rs : List Rule) (w : World) (hn : rs.length = n) (hx : Rules w w.heap.size A rs) (hmax : n < 2 ^ 40) (hcap : n ≤ k) (ha : 0 ≤ a ∧ a < 256) :
  Calls Try.prog 70 #[.agg #[.int .i64 m, .int .u8 a, .slice A n k]] w fun e w' => e = .returned (.bool (validB m a rs)) ∧ Below w.heap.size w w' := by
 have hbx : Hid (Below w.heap.size w (w.alloc (.cells #[.int .i64 m, .int .u8 a, .slice A n k] 30))) := below_box _ _ _
 have HN := Lib.hid hn
 clear hn
 go_enter Try.func70, Try.ntmps70
 go_wp2_with fail
 refine (check_any A n k m a rs _ HN.out (hx.up hbx.out) hmax hcap ha).mono ?_
 rintro e w1 ⟨rfl, hb1⟩
 have HB := Lib.hid (below_next hbx.out hb1)
 clear hb1
 go_wp2
 go_ret
 exact ⟨rfl, HB.out⟩
end Go.Proofs.Ytpkdlljefkbmpaa

/-! Package table: formatRule. -/
namespace Go.Proofs.Ytpkdlljefkbmpaa
open Go.RowKit

def Rule.plain (x : Rule) : Prop := x.p.size < 1000 ∧ x.c.length < 1000 ∧ (∀ z ∈ x.c, 0 ≤ z ∧ z < 64) ∧ (0 ≤ x.l ∧ x.l < 256) ∧ (0 ≤ x.r ∧ x.r < 256) ∧ (-9223372036854775808 ≤ x.f ∧ x.f ≤ 9223372036854775807) ∧ (-9223372036854775808 ≤ x.t ∧ x.t ≤ 9223372036854775807)
end Go.Proofs.Ytpkdlljefkbmpaa

/-! Package table: Format. -/
namespace Go.Proofs.Ytpkdlljefkbmpaa
open Go.RowKit

theorem own_keep {w w' : World} {base size n : Nat} {e : TypeId} {v : Value} {xs : List Value} (h : w.ownsRow base e size v n xs) (hb : Below w.heap.size w w') : w'.ownsRow base e size v n xs := by
 obtain ⟨hl, hf⟩ := id h
 refine ⟨hl, ?_⟩
 rcases hf with h0 | ⟨g, cap, cur, rfl, hg, hblk, hr⟩
 ·
  exact .inl h0
 ·
  exact .inr ⟨g, cap, cur, rfl, hg, (hb.block g (Blk.lt hblk)).trans hblk, hr⟩
end Go.Proofs.Ytpkdlljefkbmpaa
