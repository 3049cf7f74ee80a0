/- Merged by program: CellD Tab4 Tab5 Tab6 Tab7 -/
import Derived.Test.YtkjlpmkhifjmdaaQ1
import Derived.Test.YtkjlpmkhifjmdaaQ2

/-! Package cell: Valid, Parse, Dots. -/
namespace Go.Proofs.Ytkjlpmkhifjmdaa
open Go.RowKit
def parseGo : List Nat → Nat → Nat → Option Nat
  | [], _, c => some c
  | b :: r, last, c => if b ≤ last ∨ 54 < b then none else parseGo r b (c ||| 2 ^ (b - 49))
def parse (l : List Nat) : Option Nat := if l = [48] then some 0 else if l = [] then none else parseGo l 48 0
def paC (l : List Nat) : Int := ((parse l).getD 0 : Nat)
def paE (l : List Nat) : Int := if (parse l).isSome then 0 else 10
theorem or_step (c x : Nat) (hc : c < 64) (h1 : 49 ≤ x) (h2 : x ≤ 54) :
    bits .or .u8 (c : Int) ((2 : Int) ^ (x - 49) % 256) = ((c ||| 2 ^ (x - 49) : Nat) : Int) ∧ c ||| 2 ^ (x - 49) < 64 := by
  have h := allB2_out (n := 64) (m := 6) (p := fun c k => decide (bits .or .u8 (c : Int) ((2 : Int) ^ k % 256) = ((c ||| 2 ^ k : Nat) : Int)) && decide (c ||| 2 ^ k < 64)) (by decide +kernel) c (x - 49) hc (by omega)
  simpa using h
theorem parseGo_step (l : List Nat) (j x last c : Nat) (h : l[j]? = some x) (hl : ¬ x ≤ last) (h2 : x ≤ 54) : parseGo (l.drop j) last c = parseGo (l.drop (j + 1)) x (c ||| 2 ^ (x - 49)) := by
  have hj : j < l.length := by
    rcases Nat.lt_or_ge j l.length with g | g
    · exact g
    · rw [List.getElem?_eq_none g] at h; cases h
  rw [List.drop_eq_getElem_cons hj]
  rw [List.getElem?_eq_getElem hj] at h
  injection h with h
  rw [h, parseGo, if_neg (by omega)]
theorem parseGo_stop (l : List Nat) (j x last c : Nat) (h : l[j]? = some x) (hl : x ≤ last ∨ 54 < x) : parseGo (l.drop j) last c = none := by
  have hj : j < l.length := by
    rcases Nat.lt_or_ge j l.length with g | g
    · exact g
    · rw [List.getElem?_eq_none g] at h; cases h
  rw [List.drop_eq_getElem_cons hj]
  rw [List.getElem?_eq_getElem hj] at h
  injection h with h
  rw [h, parseGo, if_pos hl]
/-- The digits of the first k dots of c. -/
def pre (c : Nat) : Nat → List Int
  | 0 => []
  | k + 1 => pre c k ++ (if c / 2 ^ k % 2 = 1 then [((49 + k : Nat) : Int)] else [])
def dotsText (c : Nat) : List Int := if pre c 6 = [] then [48] else pre c 6
theorem pre_len (c k : Nat) : (pre c k).length ≤ k := by
  induction k with
  | zero => simp [pre]
  | succ k ih => unfold pre; split <;> simp <;> omega
set_option maxRecDepth 10000 in
theorem bit_yes (c k : Nat) (hc : c < 64) (hk : k < 6) (h : c / 2 ^ k % 2 = 1) : (bits .and .u8 ((c : Int) / 2 ^ k) 1 == 1) = true := by
  have := allB2_out (n := 64) (m := 6) (p := fun c k => decide (c / 2 ^ k % 2 = 1) == (bits .and .u8 ((c : Int) / 2 ^ k) 1 == 1)) (by decide +kernel) c k hc hk
  simp only [h, decide_true] at this
  exact (eq_of_beq this).symm
set_option maxRecDepth 10000 in
theorem bit_no (c k : Nat) (hc : c < 64) (hk : k < 6) (h : ¬ c / 2 ^ k % 2 = 1) : (bits .and .u8 ((c : Int) / 2 ^ k) 1 == 1) = false := by
  have := allB2_out (n := 64) (m := 6) (p := fun c k => decide (c / 2 ^ k % 2 = 1) == (bits .and .u8 ((c : Int) / 2 ^ k) 1 == 1)) (by decide +kernel) c k hc hk
  simp only [h, decide_false] at this
  exact (eq_of_beq this).symm
end Go.Proofs.Ytkjlpmkhifjmdaa

/-! Package table: rules; lists of cells compared; the parts of soundness. -/
namespace Go.Proofs.Ytkjlpmkhifjmdaa
open Go.RowKit

/-- A rule of a code table. -/
structure Rule where
  p : ByteArray
  c : List Int
  l : Int
  r : Int
  f : Int
  t : Int
theorem Rule.ext_of {x y : Rule} (h1 : x.p = y.p) (h2 : x.c = y.c) (h3 : x.l = y.l) (h4 : x.r = y.r) (h5 : x.f = y.f) (h6 : x.t = y.t) : x = y := by
  cases x; cases y; simp_all
instance : DecidableEq Rule := fun x y =>
  decidable_of_iff (x.p = y.p ∧ x.c = y.c ∧ x.l = y.l ∧ x.r = y.r ∧ x.f = y.f ∧ x.t = y.t)
    ⟨fun ⟨a, b, c, d, e, f⟩ => Rule.ext_of a b c d e f, fun h => by subst h; exact ⟨rfl, rfl, rfl, rfl, rfl, rfl⟩⟩
def eqB {α : Type} [DecidableEq α] (a b : α) : Bool := decide (a = b)
theorem eqB_refl {α : Type} [DecidableEq α] {a b : α} (h : a = b) : eqB a b = true := by simp [eqB, h]
theorem eqB_ne {α : Type} [DecidableEq α] {a b : α} (h : ¬ a = b) : eqB a b = false := by simp [eqB, h]
/-- What holds of every rule that lies in memory. -/
def Rule.fits (x : Rule) : Prop :=
  x.p.size < 2 ^ 47 ∧ x.c.length < 2 ^ 47 ∧ (∀ z ∈ x.c, 0 ≤ z ∧ z < 256) ∧ (0 ≤ x.l ∧ x.l < 256) ∧ (0 ≤ x.r ∧ x.r < 256) ∧ (-9223372036854775808 ≤ x.f ∧ x.f ≤ 9223372036854775807) ∧ (-9223372036854775808 ≤ x.t ∧ x.t ≤ 9223372036854775807)

/-- Whether one of the first j is x. -/
theorem in_step {xs : List Int} {x y : Int} {j : Nat} (h : ∀ i, i < j → ¬ xs[i]? = some x) (hy : xs[j]? = some y) (hne : ¬ x = y) : ∀ i, i < j + 1 → ¬ xs[i]? = some x := by
  intro i hi e
  rcases Nat.lt_or_ge i j with g | g
  · exact h i g e
  · obtain rfl : i = j := by omega
    rw [hy] at e; injection e with e; exact hne e.symm
def inB (x : Int) (xs : List Int) : Bool := decide (x ∈ xs)
theorem inB_yes {xs : List Int} {x : Int} {j : Nat} (h : xs[j]? = some x) : inB x xs = true := by
  unfold inB; simp; exact List.mem_of_getElem? h
theorem inB_no {xs : List Int} {x : Int} {n : Nat} (hn : xs.length = n) (h : ∀ i, i < n → ¬ xs[i]? = some x) : inB x xs = false := by
  unfold inB; simp
  intro hm
  obtain ⟨i, hi, e⟩ := List.getElem_of_mem hm
  exact h i (by omega) (by rw [List.getElem?_eq_getElem hi, e])
end Go.Proofs.Ytkjlpmkhifjmdaa

/-! Package table: the parts of soundness; rules compared. -/
namespace Go.Proofs.Ytkjlpmkhifjmdaa
open Go.RowKit

set_option maxRecDepth 10000 in
set_option maxHeartbeats 400000 in
theorem sameCells_any (A B : Option Addr) (n m k l : Nat) (xs ys : List Int) (w : World) (hn : xs.length = n) (hm : ys.length = m) (hx : Seq w w.heap.size A xs) (hy : Seq w w.heap.size B ys) (hmax : n < 2 ^ 47) :
    Calls Try.prog 35 #[.slice A n k, .slice B m l] w fun e w' => e = .returned (.bool (eqB xs ys)) ∧ Below w.heap.size w w' := by
  by_cases hl : n = m
  · subst hl
    have HM := Lib.hid hm
    have HN := Lib.hid hn
    clear hm hn
    go_enter Try.func35, Try.ntmps35
    go_wp2
    go_loopw [5] (fun i wr => ∃ j : Nat, j ≤ n ∧ i = .int .i64 j ∧ xs.take j = ys.take j ∧ Below w.heap.size w wr) (fun i _ => n - (intOf i).toNat)
    case atStart => exact ⟨0, by omega, rfl, rfl, Below.refl _ _⟩
    case round =>
      obtain ⟨j, hj, rfl, ht, hb⟩ := hrel
      by_cases hlt : j < n
      · obtain ⟨b1, o1, e1, hB1, c1⟩ := hx.keep hb (by have := HN.out; omega)
        obtain ⟨b2, o2, e2, hB2, c2⟩ := hy.keep hb (by have := HM.out; omega)
        subst e1 e2
        have d1 := c1 j (by have := HN.out; omega)
        have d2 := c2 j (by have := HM.out; omega)
        have HT := Lib.hid (take_same (xs := xs) (ys := ys) (k := j) (by have := HN.out; omega) (by have := HM.out; omega))
        clear c1 c2 hx hy
        generalize xs[j]'(by have := HN.out; omega) = x at *
        generalize ys[j]'(by have := HM.out; omega) = y at *
        have hj0 : (0 : Int) ≤ (j : Int) := by omega
        have hjn : (j : Int) < (n : Int) := by omega
        have HTT := Lib.hid ht
        clear ht
        go_wp2
        go_quiet (fail)
        go_wp2
        · rename_i hne
          go_ret
          have hd : ¬ xs = ys := fun e => by have := HT.out; rw [e] at this; simp at hne; exact hne (this.1 rfl).2
          exact ⟨ret_bool (eqB_ne hd).symm, below_dN hb⟩
        · rename_i heq
          refine ⟨⟨j + 1, by omega, by go_num, ?_, below_dN hb⟩, by simp [intOf]; omega⟩
          exact HT.out.2 ⟨HTT.out, by simpa using heq⟩
      · have : j = n := by omega
        subst this
        have HTT := Lib.hid ht
        clear ht
        go_wp2
        go_ret
        have e1 : xs = ys := by rw [← List.take_of_length_le (i := j) (l := xs) (by have := HN.out; omega), HTT.out, List.take_of_length_le (by have := HM.out; omega)]
        exact ⟨ret_bool (eqB_refl e1).symm, hb⟩
  · have hne : ¬ xs.length = ys.length := by omega
    clear hn hm
    go_enter Try.func35, Try.ntmps35
    go_wp2
    go_ret
    exact ⟨ret_bool (eqB_ne fun e => hne (by rw [e])).symm, Below.refl _ _⟩

def maskB (m : Int) : Bool := decide (m ≠ 0) && decide (m ≤ 63)
def modeB (m n : Int) : Bool := decide (0 ≤ m) && decide (m < n)
def cellsB (xs : List Int) : Bool := decide (1 ≤ xs.length) && decide (xs.length ≤ 4) && xs.all (fun z => decide (z < 63))
theorem cellsB_no {xs : List Int} {x : Int} {j : Nat} (h : xs[j]? = some x) (hx : 63 ≤ x) : cellsB xs = false := by
  unfold cellsB
  have : xs.all (fun z => decide (z < 63)) = false := by
    rw [List.all_eq_false]; exact ⟨x, List.mem_of_getElem? h, by simp; omega⟩
  rw [this]; simp
theorem cellsB_yes {xs : List Int} (h1 : 1 ≤ xs.length) (h4 : xs.length ≤ 4) (h : ∀ i z, i < xs.length → xs[i]? = some z → z < 63) : cellsB xs = true := by
  unfold cellsB
  have : xs.all (fun z => decide (z < 63)) = true := by
    rw [List.all_eq_true]; intro x hx
    obtain ⟨i, hi, e⟩ := List.getElem_of_mem hx
    simpa using h i x hi (by rw [List.getElem?_eq_getElem hi, e])
  rw [this]; simp; omega
theorem all_step {xs : List Int} {P : Int → Prop} {j : Nat} {y : Int} (h : ∀ i z, i < j → xs[i]? = some z → P z) (hy : xs[j]? = some y) (hp : P y) : ∀ i z, i < j + 1 → xs[i]? = some z → P z := by
  intro i z hi e
  rcases Nat.lt_or_ge i j with g | g
  · exact h i z g e
  · obtain rfl : i = j := by omega
    rw [hy] at e; injection e with e; rw [← e]; exact hp
end Go.Proofs.Ytkjlpmkhifjmdaa

/-! Package table: soundBlanks; rules compared. -/
namespace Go.Proofs.Ytkjlpmkhifjmdaa
open Go.RowKit

theorem Seq.up {w w' : World} {A : Option Addr} {xs : List Int} (h : Seq w w.heap.size A xs) (hb : Below w.heap.size w w') : Seq w' w'.heap.size A xs := (h.keep hb).more hb.size
theorem below_box (w : World) (cs : Array Value) (t : TypeId) : Below w.heap.size w (w.alloc (.cells cs t)) := (Below.refl _ _).alloc (Nat.le_refl _) _

/-- What lay below is as it was. -/
theorem bcell {W w1 : World} (hb : Below W.heap.size W w1) : (∀ b o, b < W.heap.size → w1.cell? ⟨b, o, none⟩ = W.cell? ⟨b, o, none⟩) ∧ (∀ b o, b < W.heap.size → w1.frozen? ⟨b, o, none⟩ = W.frozen? ⟨b, o, none⟩) :=
  ⟨fun b o h => hb.cell (p := ⟨b, o, none⟩) h, fun b o h => hb.frozen (p := ⟨b, o, none⟩) h⟩

def blanksB (p : List Nat) (c : List Int) : Bool := if p.any isSp then decide (p.length = 1) && eqB c [0] else !inB 0 c
theorem one_of {xs : List Int} (h : xs.length = 1) (h0 : 0 < xs.length) : xs = [xs[0]'h0] := by
  match xs, h with
  | [a], _ => rfl
theorem noSp_any {l : List Nat} {n : Nat} (hn : l.length = n) (h : ∀ i b, i < n → l[i]? = some b → isSp b = false) : l.any isSp = false := by
  rw [List.any_eq_false]
  intro x hx
  obtain ⟨i, hi, e⟩ := List.getElem_of_mem hx
  rw [h i x (by omega) (by rw [List.getElem?_eq_getElem hi, e])]; simp
theorem sp_any {l : List Nat} {j x : Nat} (h : l[j]? = some x) (hs : isSp x = true) : l.any isSp = true := by
  rw [List.any_eq_true]; exact ⟨x, List.mem_of_getElem? h, hs⟩
theorem allN_step {xs : List Nat} {P : Nat → Prop} {j : Nat} {y : Nat} (h : ∀ i z, i < j → xs[i]? = some z → P z) (hy : xs[j]? = some y) (hp : P y) : ∀ i z, i < j + 1 → xs[i]? = some z → P z := by
  intro i z hi e
  rcases Nat.lt_or_ge i j with g | g
  · exact h i z g e
  · obtain rfl : i = j := by omega
    rw [hy] at e; injection e with e; rw [← e]; exact hp
theorem chain6 (b1 b2 b3 b4 b5 b6 : Bool) : (b1 = false) ∨ (b1 = true ∧ b2 = false) ∨ (b1 = true ∧ b2 = true ∧ b3 = false) ∨ (b1 = true ∧ b2 = true ∧ b3 = true ∧ b4 = false) ∨ (b1 = true ∧ b2 = true ∧ b3 = true ∧ b4 = true ∧ b5 = false) ∨ (b1 = true ∧ b2 = true ∧ b3 = true ∧ b4 = true ∧ b5 = true ∧ b6 = false) ∨ (b1 = true ∧ b2 = true ∧ b3 = true ∧ b4 = true ∧ b5 = true ∧ b6 = true) := by
  cases b1 <;> cases b2 <;> cases b3 <;> cases b4 <;> cases b5 <;> cases b6 <;> simp
theorem eqB_rule (x y : Rule) : eqB x y = (eqB x.p y.p && eqB x.c y.c && eqB x.l y.l && eqB x.r y.r && eqB x.f y.f && eqB x.t y.t) := by
  by_cases h : x = y
  · subst h; simp [eqB]
  · rw [eqB_ne h]
    symm
    rw [Bool.eq_false_iff]
    intro g
    simp only [eqB, Bool.and_eq_true, decide_eq_true_eq] at g
    exact h (Rule.ext_of g.1.1.1.1.1 g.1.1.1.1.2 g.1.1.1.2 g.1.1.2 g.1.2 g.2)
theorem eqB_int (a b : Int) : (a == b) = eqB a b := by rw [Bool.eq_iff_iff]; simp [eqB]
theorem eqB_str (a b : ByteArray) : (a.toList == b.toList) = eqB a b := by
  rw [Bool.eq_iff_iff]
  simp only [beq_iff_eq, eqB, decide_eq_true_eq, ByteArray.toList_eq]
  constructor
  · intro h; cases a; cases b; simp only [ByteArray.mk.injEq]; exact Array.toList_inj.1 h
  · rintro rfl; rfl
set_option maxRecDepth 10000 in
set_option maxHeartbeats 400000 in
theorem sameRule_any (A B : Option Addr) (n m k l : Nat) (x y : Rule) (w : World) (hn : x.c.length = n) (hm : y.c.length = m) (hx : Seq w w.heap.size A x.c) (hy : Seq w w.heap.size B y.c) (hmax : n < 2 ^ 47) :
    Calls Try.prog 53 #[.agg #[.string x.p, .slice A n k, .int .u8 x.l, .int .u8 x.r, .int .i64 x.f, .int .i64 x.t], .agg #[.string y.p, .slice B m l, .int .u8 y.l, .int .u8 y.r, .int .i64 y.f, .int .i64 y.t]] w fun e w' => e = .returned (.bool (eqB x y)) ∧ Below w.heap.size w w' := by
  have HE := Lib.hid (eqB_rule x y)
  have HN := Lib.hid hn
  have HM := Lib.hid hm
  clear hn hm
  have q1 := eqB_str x.p y.p
  obtain ⟨b2, hb2⟩ : ∃ b, eqB x.c y.c = b := ⟨_, rfl⟩
  have Q2 := Lib.hid hb2
  have q3 := eqB_int x.l y.l
  have q4 := eqB_int x.r y.r
  have q5 := eqB_int x.f y.f
  have q6 := eqB_int x.t y.t
  rw [hb2] at HE
  clear hb2
  generalize eqB x.p y.p = b1 at *
  generalize eqB x.l y.l = b3 at *
  generalize eqB x.r y.r = b4 at *
  generalize eqB x.f y.f = b5 at *
  generalize eqB x.t y.t = b6 at *
  rcases chain6 b1 b2 b3 b4 b5 b6 with rfl | ⟨rfl, rfl⟩ | ⟨rfl, rfl, rfl⟩ | ⟨rfl, rfl, rfl, rfl⟩ | ⟨rfl, rfl, rfl, rfl, rfl⟩ | ⟨rfl, rfl, rfl, rfl, rfl, rfl⟩ | ⟨rfl, rfl, rfl, rfl, rfl, rfl⟩
  all_goals
    go_enter Try.func53, Try.ntmps53
    have hbx : Hid (Below w.heap.size w ((w.alloc (.cells #[.string x.p, .slice A n k, .int .u8 x.l, .int .u8 x.r, .int .i64 x.f, .int .i64 x.t] 55)).alloc (.cells #[.string y.p, .slice B m l, .int .u8 y.l, .int .u8 y.r, .int .i64 y.f, .int .i64 y.t] 55))) := (below_box w _ _).alloc (by simp) _
    go_wp2_with (go_at_call 35; refine (sameCells_any _ _ _ _ _ _ _ _ _ HN.out HM.out (hx.up hbx.out) (hy.up hbx.out) hmax).mono ?_; rintro e w' ⟨rfl, hb'⟩; rw [Q2.out]; have hbw := Lib.hid (below_next hbx.out hb'); obtain ⟨hcc, hff⟩ := bcell hb'; have hzz := hb'.size; clear hb')
    go_ret
    exact ⟨ret_bool (by rw [HE.out]; rfl), by first | exact hbw.out | exact hbx.out⟩
end Go.Proofs.Ytkjlpmkhifjmdaa

/-! Package table: sound rules. -/
namespace Go.Proofs.Ytkjlpmkhifjmdaa
open Go.RowKit

def soundB (x : Rule) (m : Int) : Bool := decide (x.p.size ≤ 4) && isTextB (bytes x.p) && cellsB x.c && blanksB (bytes x.p) x.c && maskB x.l && maskB x.r && modeB x.f m && modeB x.t m
theorem chain8 (b1 b2 b3 b4 b5 b6 b7 b8 : Bool) : (b1 = false) ∨ (b1 = true ∧ b2 = false) ∨ (b1 = true ∧ b2 = true ∧ b3 = false) ∨ (b1 = true ∧ b2 = true ∧ b3 = true ∧ b4 = false) ∨ (b1 = true ∧ b2 = true ∧ b3 = true ∧ b4 = true ∧ b5 = false) ∨ (b1 = true ∧ b2 = true ∧ b3 = true ∧ b4 = true ∧ b5 = true ∧ b6 = false) ∨ (b1 = true ∧ b2 = true ∧ b3 = true ∧ b4 = true ∧ b5 = true ∧ b6 = true ∧ b7 = false) ∨ (b1 = true ∧ b2 = true ∧ b3 = true ∧ b4 = true ∧ b5 = true ∧ b6 = true ∧ b7 = true ∧ b8 = false) ∨ (b1 = true ∧ b2 = true ∧ b3 = true ∧ b4 = true ∧ b5 = true ∧ b6 = true ∧ b7 = true ∧ b8 = true) := by
  cases b1 <;> cases b2 <;> cases b3 <;> cases b4 <;> cases b5 <;> cases b6 <;> cases b7 <;> cases b8 <;> simp
end Go.Proofs.Ytkjlpmkhifjmdaa
