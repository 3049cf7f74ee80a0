/- Merged by program: CellD Tab4 Tab5 Tab6 Tab7 -/
import Derived.Test.YtpkdlljefkbmpaaQ1
import Derived.Test.YtpkdlljefkbmpaaQ2

/-! Package cell: Valid, Parse, Dots. -/
namespace Go.Proofs.Ytpkdlljefkbmpaa
open Go.RowKit

theorem valid_any (c : Int) (w : World) :
  Calls Try.prog 188 #[.int .u8 c] w fun e w' => e = .returned (.bool (decide (c ≤ 63))) ∧ w = w' := by
 go_enter Try.func188, Try.ntmps188
 go_wp2
 go_ret
 exact ⟨rfl, rfl⟩
def parseGo : List Nat → Nat → Nat → Option Nat
 | [], _, c => some c
 | b :: r, last, c => if b ≤ last ∨ 54 < b then none else parseGo r b (c ||| 2 ^ (b - 49))
def parse (l : List Nat) : Option Nat := if l = [48] then some 0 else if l = [] then none else parseGo l 48 0
def paC (l : List Nat) : Int := ((parse l).getD 0 : Nat)
def paE (l : List Nat) : Int := if (parse l).isSome then 0 else 10
def pre (c : Nat) : Nat → List Int
 | 0 => []
 | k + 1 => pre c k ++ (if c / 2 ^ k % 2 = 1 then [((49 + k : Nat) : Int)] else [])
end Go.Proofs.Ytpkdlljefkbmpaa

/-! Package table: rules; lists of cells compared; the parts of soundness. -/
namespace Go.Proofs.Ytpkdlljefkbmpaa
open Go.RowKit

structure Rule where
 p : ByteArray
 c : List Int
 l : Int
 r : Int
 f : Int
 t : Int
theorem Rule.ext_of {x y : Rule} (h1 : x.p = y.p) (h2 : x.c = y.c) (h3 : x.l = y.l) (h4 : x.r = y.r) (h5 : x.f = y.f) (h6 : x.t = y.t) : x = y := by
 cases x; cases y; simp_all
instance : DecidableEq Rule := fun x y =>
 decidable_of_iff (x.p = y.p ∧ x.c = y.c ∧ x.l = y.l ∧ x.r = y.r ∧ x.f = y.f ∧ x.t = y.t)
  ⟨fun ⟨a, b, c, d, e, f⟩ => Rule.ext_of a b c d e f, fun h => by subst h; exact ⟨rfl, rfl, rfl, rfl, rfl, rfl⟩⟩
def eqB {α : Type} [DecidableEq α] (a b : α) : Bool := decide (a = b)
theorem eqB_refl {α : Type} [DecidableEq α] {a b : α} (h : a = b) : eqB a b = true := by simp [eqB, h]
theorem eqB_ne {α : Type} [DecidableEq α] {a b : α} (h : ¬ a = b) : eqB a b = false := by simp [eqB, h]
def Rule.fits (x : Rule) : Prop :=
 x.p.size < 2 ^ 47 ∧ x.c.length < 2 ^ 47 ∧ (∀ z ∈ x.c, 0 ≤ z ∧ z < 256) ∧ (0 ≤ x.l ∧ x.l < 256) ∧ (0 ≤ x.r ∧ x.r < 256) ∧ (-9223372036854775808 ≤ x.f ∧ x.f ≤ 9223372036854775807) ∧ (-9223372036854775808 ≤ x.t ∧ x.t ≤ 9223372036854775807)

set_option maxRecDepth 10000 in
set_option maxHeartbeats 400000 in
theorem equalCells_any (A B : Option Addr) (n m k l : Nat) (xs ys : List Int) (w : World) (hn : xs.length = n) (hm : ys.length = m) (hx : Seq w w.heap.size A xs) (hy : Seq w w.heap.size B ys) (hmax : n < 2 ^ 47) :
  Calls Try.prog 115 #[.slice A n k, .slice B m l] w fun e w' => e = .returned (.bool (eqB xs ys)) ∧ Below w.heap.size w w' := by
 by_cases hl : n = m
 ·
  subst hl
  have HM := Lib.hid hm
  have HN := Lib.hid hn
  clear hm hn
  go_enter Try.func115, Try.ntmps115
  go_wp2
  go_loopw [13] (fun i wr => ∃ j : Nat, j ≤ n ∧ i = .int .i64 j ∧ xs.take j = ys.take j ∧ Below w.heap.size w wr) (fun i _ => n - (intOf i).toNat)
  case atStart => exact ⟨0, by omega, rfl, rfl, Below.refl _ _⟩
  case round =>
   obtain ⟨j, hj, rfl, ht, hb⟩ := hrel
   by_cases hlt : j < n
   ·
    obtain ⟨b1, o1, e1, hB1, c1⟩ := hx.keep hb (by have := HN.out; omega)
    obtain ⟨b2, o2, e2, hB2, c2⟩ := hy.keep hb (by have := HM.out; omega)
    subst e1 e2
    have d1 := c1 j (by have := HN.out; omega)
    have d2 := c2 j (by have := HM.out; omega)
    have HT := Lib.hid (take_same (xs := xs) (ys := ys) (k := j) (by have := HN.out; omega) (by have := HM.out; omega))
    clear c1 c2 hx hy
    generalize xs[j]'(by have := HN.out; omega) = x at *
    generalize ys[j]'(by have := HM.out; omega) = y at *
    have hj0 : (0 : Int) ≤ (j : Int) := by omega
    have hjn : (j : Int) < (n : Int) := by omega
    have HTT := Lib.hid ht
    clear ht
    go_wp2
    go_quiet (fail)
    go_wp2
    ·
     rename_i hne
     go_ret
     have hd : ¬ xs = ys := fun e => by have := HT.out; rw [e] at this; simp at hne; exact hne (this.1 rfl).2
     exact ⟨ret_bool (eqB_ne hd).symm, below_dN hb⟩
    ·
     rename_i heq
     refine ⟨⟨j + 1, by omega, by go_num, ?_, below_dN hb⟩, by simp [intOf]; omega⟩
     exact HT.out.2 ⟨HTT.out, by simpa using heq⟩
   ·
    have : j = n := by omega
    subst this
    have HTT := Lib.hid ht
    clear ht
    go_wp2
    go_ret
    have e1 : xs = ys := by rw [← List.take_of_length_le (i := j) (l := xs) (by have := HN.out; omega), HTT.out, List.take_of_length_le (by have := HM.out; omega)]
    exact ⟨ret_bool (eqB_refl e1).symm, hb⟩
 ·
  have hne : ¬ xs.length = ys.length := by omega
  clear hn hm
  go_enter Try.func115, Try.ntmps115
  go_wp2
  go_ret
  exact ⟨ret_bool (eqB_ne fun e => hne (by rw [e])).symm, Below.refl _ _⟩
theorem in_step {xs : List Int} {x y : Int} {j : Nat} (h : ∀ i, i < j → ¬ xs[i]? = some x) (hy : xs[j]? = some y) (hne : ¬ x = y) : ∀ i, i < j + 1 → ¬ xs[i]? = some x := by
 intro i hi e
 rcases Nat.lt_or_ge i j with g | g
 ·
  exact h i g e
 ·
  obtain rfl : i = j := by omega
  rw [hy] at e; injection e with e; exact hne e.symm
def inB (x : Int) (xs : List Int) : Bool := decide (x ∈ xs)
theorem inB_yes {xs : List Int} {x : Int} {j : Nat} (h : xs[j]? = some x) : inB x xs = true := by
 unfold inB; simp; exact List.mem_of_getElem? h
theorem inB_no {xs : List Int} {x : Int} {n : Nat} (hn : xs.length = n) (h : ∀ i, i < n → ¬ xs[i]? = some x) : inB x xs = false := by
 unfold inB; simp
 intro hm
 obtain ⟨i, hi, e⟩ := List.getElem_of_mem hm
 exact h i (by omega) (by rw [List.getElem?_eq_getElem hi, e])
set_option maxRecDepth 10000 in
theorem index_any (A : Option Addr) (n k : Nat) (xs : List Int) (x : Int) (w : World) (hn : xs.length = n) (hx : Seq w w.heap.size A xs) (hmax : n < 2 ^ 47) :
  Calls Try.prog 196 #[.slice A n k, .int .u8 x] w fun e w' => (∃ v : Int, e = .returned (.int .i64 v) ∧ decide (0 ≤ v) = inB x xs) ∧ w = w' := by
 have HN := Lib.hid hn
 clear hn
 go_enter Try.func196, Try.ntmps196
 go_wp2
 go_loop [8] (fun i => ∃ j : Nat, j ≤ n ∧ i = .int .i64 j ∧ ∀ i, i < j → ¬ xs[i]? = some x) (fun i => n - (intOf i).toNat)
 case atStart => exact ⟨0, by omega, rfl, fun i h => absurd h (by omega)⟩
 case round =>
  obtain ⟨j, hj, rfl, hto⟩ := hrel
  have HTO := Lib.hid hto
  clear hto
  by_cases hlt : j < n
  ·
   obtain ⟨b1, o1, e1, hB1, c1⟩ := hx (by have := HN.out; omega)
   subst e1
   have d1 := c1 j (by have := HN.out; omega)
   have HY : Hid (xs[j]? = some (xs[j]'(by have := HN.out; omega))) := List.getElem?_eq_getElem _
   clear c1 hx
   generalize xs[j]'(by have := HN.out; omega) = y at *
   have hj0 : (0 : Int) ≤ (j : Int) := by omega
   have hjn : (j : Int) < (n : Int) := by omega
   by_cases hxy : x = y
   ·
    subst hxy
    go_wp2
    go_ret
    exact ⟨⟨_, rfl, by rw [inB_yes HY.out]; simp⟩, rfl⟩
   ·
    have hb : (x == y) = false := beq_eq_false_iff_ne.2 hxy
    have HXY := Lib.hid hxy
    clear hxy
    go_wp2
    exact ⟨⟨j + 1, by omega, by go_num, in_step HTO.out HY.out HXY.out⟩, by simp [intOf]; omega⟩
  ·
   have : j = n := by omega
   subst this
   go_wp2
   go_ret
   exact ⟨⟨-1, rfl, by rw [inB_no HN.out HTO.out]; rfl⟩, rfl⟩
theorem contains_any (A : Option Addr) (n k : Nat) (xs : List Int) (x : Int) (w : World) (hn : xs.length = n) (hx : Seq w w.heap.size A xs) (hmax : n < 2 ^ 47) :
  Calls Try.prog 190 #[.slice A n k, .int .u8 x] w fun e w' => e = .returned (.bool (inB x xs)) ∧ w = w' := by
 have HN := Lib.hid hn
 clear hn
 go_enter Try.func190, Try.ntmps190
 go_wp2_with fail
 refine (index_any A n k xs x _ HN.out hx hmax).mono ?_
 rintro e _ ⟨⟨v, rfl, hv⟩, rfl⟩
 have HV := Lib.hid hv
 clear hv
 go_wp2
 go_ret
 exact ⟨ret_bool HV.out, rfl⟩
end Go.Proofs.Ytpkdlljefkbmpaa

/-! Package table: the parts of soundness; rules compared. -/
namespace Go.Proofs.Ytpkdlljefkbmpaa
open Go.RowKit

set_option maxRecDepth 10000 in
set_option maxHeartbeats 400000 in
theorem sameCells_any (A B : Option Addr) (n m k l : Nat) (xs ys : List Int) (w : World) (hn : xs.length = n) (hm : ys.length = m) (hx : Seq w w.heap.size A xs) (hy : Seq w w.heap.size B ys) (hmax : n < 2 ^ 47) :
  Calls Try.prog 77 #[.slice A n k, .slice B m l] w fun e w' => e = .returned (.bool (eqB xs ys)) ∧ Below w.heap.size w w' := by
 by_cases hl : n = m
 ·
  subst hl
  have HM := Lib.hid hm
  have HN := Lib.hid hn
  clear hm hn
  go_enter Try.func77, Try.ntmps77
  go_wp2
  go_loopw [5] (fun i wr => ∃ j : Nat, j ≤ n ∧ i = .int .i64 j ∧ xs.take j = ys.take j ∧ Below w.heap.size w wr) (fun i _ => n - (intOf i).toNat)
  case atStart => exact ⟨0, by omega, rfl, rfl, Below.refl _ _⟩
  case round =>
   obtain ⟨j, hj, rfl, ht, hb⟩ := hrel
   by_cases hlt : j < n
   ·
    obtain ⟨b1, o1, e1, hB1, c1⟩ := hx.keep hb (by have := HN.out; omega)
    obtain ⟨b2, o2, e2, hB2, c2⟩ := hy.keep hb (by have := HM.out; omega)
    subst e1 e2
    have d1 := c1 j (by have := HN.out; omega)
    have d2 := c2 j (by have := HM.out; omega)
    have HT := Lib.hid (take_same (xs := xs) (ys := ys) (k := j) (by have := HN.out; omega) (by have := HM.out; omega))
    clear c1 c2 hx hy
    generalize xs[j]'(by have := HN.out; omega) = x at *
    generalize ys[j]'(by have := HM.out; omega) = y at *
    have hj0 : (0 : Int) ≤ (j : Int) := by omega
    have hjn : (j : Int) < (n : Int) := by omega
    have HTT := Lib.hid ht
    clear ht
    go_wp2
    go_quiet (fail)
    go_wp2
    ·
     rename_i hne
     go_ret
     have hd : ¬ xs = ys := fun e => by have := HT.out; rw [e] at this; simp at hne; exact hne (this.1 rfl).2
     exact ⟨ret_bool (eqB_ne hd).symm, below_dN hb⟩
    ·
     rename_i heq
     refine ⟨⟨j + 1, by omega, by go_num, ?_, below_dN hb⟩, by simp [intOf]; omega⟩
     exact HT.out.2 ⟨HTT.out, by simpa using heq⟩
   ·
    have : j = n := by omega
    subst this
    have HTT := Lib.hid ht
    clear ht
    go_wp2
    go_ret
    have e1 : xs = ys := by rw [← List.take_of_length_le (i := j) (l := xs) (by have := HN.out; omega), HTT.out, List.take_of_length_le (by have := HM.out; omega)]
    exact ⟨ret_bool (eqB_refl e1).symm, hb⟩
 ·
  have hne : ¬ xs.length = ys.length := by omega
  clear hn hm
  go_enter Try.func77, Try.ntmps77
  go_wp2
  go_ret
  exact ⟨ret_bool (eqB_ne fun e => hne (by rw [e])).symm, Below.refl _ _⟩

def maskB (m : Int) : Bool := decide (m ≠ 0) && decide (m ≤ 63)
theorem soundMask_any (m : Int) (w : World) :
  Calls Try.prog 173 #[.int .u8 m] w fun e w' => e = .returned (.bool (maskB m)) ∧ w = w' := by
 go_enter Try.func173, Try.ntmps173
 go_wp2
 all_goals
  go_ret
  exact ⟨ret_bool (by unfold maskB; first | (simp [*]; done) | (simp at *; simp [*])), rfl⟩
def modeB (m n : Int) : Bool := decide (0 ≤ m) && decide (m < n)
theorem soundMode_any (m n : Int) (w : World) :
  Calls Try.prog 174 #[.int .i64 m, .int .i64 n] w fun e w' => e = .returned (.bool (modeB m n)) ∧ w = w' := by
 go_enter Try.func174, Try.ntmps174
 go_wp2
 all_goals
  go_ret
  exact ⟨ret_bool (by unfold modeB; first | (simp [*]; done) | (simp; omega)), rfl⟩
def cellsB (xs : List Int) : Bool := decide (1 ≤ xs.length) && decide (xs.length ≤ 4) && xs.all (fun z => decide (z < 63))
theorem cellsB_no {xs : List Int} {x : Int} {j : Nat} (h : xs[j]? = some x) (hx : 63 ≤ x) : cellsB xs = false := by
 unfold cellsB
 have : xs.all (fun z => decide (z < 63)) = false := by
  rw [List.all_eq_false]; exact ⟨x, List.mem_of_getElem? h, by simp; omega⟩
 rw [this]; simp
theorem cellsB_yes {xs : List Int} (h1 : 1 ≤ xs.length) (h4 : xs.length ≤ 4) (h : ∀ i z, i < xs.length → xs[i]? = some z → z < 63) : cellsB xs = true := by
 unfold cellsB
 have : xs.all (fun z => decide (z < 63)) = true := by
  rw [List.all_eq_true]; intro x hx
  obtain ⟨i, hi, e⟩ := List.getElem_of_mem hx
  simpa using h i x hi (by rw [List.getElem?_eq_getElem hi, e])
 rw [this]; simp; omega
theorem all_step {xs : List Int} {P : Int → Prop} {j : Nat} {y : Int} (h : ∀ i z, i < j → xs[i]? = some z → P z) (hy : xs[j]? = some y) (hp : P y) : ∀ i z, i < j + 1 → xs[i]? = some z → P z := by
 intro i z hi e
 rcases Nat.lt_or_ge i j with g | g
 ·
  exact h i z g e
 ·
  obtain rfl : i = j := by omega
  rw [hy] at e; injection e with e; rw [← e]; exact hp
set_option maxRecDepth 10000 in
theorem soundCells_any (A : Option Addr) (n k : Nat) (xs : List Int) (w : World) (hn : xs.length = n) (hx : Seq w w.heap.size A xs) (hmax : n < 2 ^ 47) :
  Calls Try.prog 171 #[.slice A n k] w fun e w' => e = .returned (.bool (cellsB xs)) ∧ w = w' := by
 have HN := Lib.hid hn
 by_cases hlen : 1 ≤ n ∧ n ≤ 4
 ·
  clear hn
  obtain ⟨h1, h4⟩ := hlen
  go_enter Try.func171, Try.ntmps171
  go_wp2
  go_loop [15] (fun i => ∃ j : Nat, j ≤ n ∧ i = .int .i64 j ∧ ∀ i z, i < j → xs[i]? = some z → z < 63) (fun i => n - (intOf i).toNat)
  case atStart => exact ⟨0, by omega, rfl, fun i z h => absurd h (by omega)⟩
  case round =>
   obtain ⟨j, hj, rfl, hto⟩ := hrel
   have HTO := Lib.hid hto
   clear hto
   by_cases hlt : j < n
   ·
    obtain ⟨b1, o1, e1, hB1, c1⟩ := hx (by have := HN.out; omega)
    subst e1
    have d1 := c1 j (by have := HN.out; omega)
    have HY : Hid (xs[j]? = some (xs[j]'(by have := HN.out; omega))) := List.getElem?_eq_getElem _
    clear c1 hx
    generalize xs[j]'(by have := HN.out; omega) = y at *
    have hj0 : (0 : Int) ≤ (j : Int) := by omega
    have hjn : (j : Int) < (n : Int) := by omega
    by_cases hy : y < 63
    ·
     have hd : decide (y ≤ 63) = true := by simp; omega
     have he : (y == 63) = false := beq_eq_false_iff_ne.2 (by omega)
     go_wp2_with (go_at_call 188; refine (valid_any _ _).mono ?_; rintro e w' ⟨rfl, rfl⟩)
     exact ⟨⟨j + 1, by omega, by go_num, all_step HTO.out HY.out hy⟩, by simp [intOf]; omega⟩
    ·
     have HF := Lib.hid (cellsB_no HY.out (by omega))
     by_cases h6 : y = 63
     ·
      subst h6
      go_wp2_with (go_at_call 188; refine (valid_any _ _).mono ?_; rintro e w' ⟨rfl, rfl⟩)
      go_ret
      exact ⟨ret_bool HF.out.symm, rfl⟩
     ·
      have hd : decide (y ≤ 63) = false := by simp; omega
      clear h6
      go_wp2_with (go_at_call 188; refine (valid_any _ _).mono ?_; rintro e w' ⟨rfl, rfl⟩)
      go_ret
      exact ⟨ret_bool HF.out.symm, rfl⟩
   ·
    have : j = n := by omega
    subst this
    go_wp2
    go_ret
    have h := HTO.out
    exact ⟨ret_bool (cellsB_yes (by rw [HN.out]; exact h1) (by rw [HN.out]; exact h4) (fun i z hi => h i z (by have := HN.out; omega))).symm, rfl⟩
 ·
  have HF : Hid (cellsB xs = false) := by
   unfold Hid cellsB
   rw [hn]
   by_cases h1 : 1 ≤ n
   ·
    rw [show decide (n ≤ 4) = false from by simp; omega]; simp
   ·
    rw [show decide (1 ≤ n) = false from by simp; omega]; simp
  clear hn
  by_cases h1 : n < 1
  ·
   go_enter Try.func171, Try.ntmps171
   go_wp2
   go_ret
   exact ⟨ret_bool HF.out.symm, rfl⟩
  ·
   have h4 : 4 < n := by omega
   clear hlen
   go_enter Try.func171, Try.ntmps171
   go_wp2
   go_ret
   exact ⟨ret_bool HF.out.symm, rfl⟩
end Go.Proofs.Ytpkdlljefkbmpaa

/-! Package table: soundBlanks; rules compared. -/
namespace Go.Proofs.Ytpkdlljefkbmpaa
open Go.RowKit

theorem Seq.up {w w' : World} {A : Option Addr} {xs : List Int} (h : Seq w w.heap.size A xs) (hb : Below w.heap.size w w') : Seq w' w'.heap.size A xs := (h.keep hb).more hb.size
theorem below_box (w : World) (cs : Array Value) (t : TypeId) : Below w.heap.size w (w.alloc (.cells cs t)) := (Below.refl _ _).alloc (Nat.le_refl _) _

theorem bcell {W w1 : World} (hb : Below W.heap.size W w1) : (∀ b o, b < W.heap.size → w1.cell? ⟨b, o, none⟩ = W.cell? ⟨b, o, none⟩) ∧ (∀ b o, b < W.heap.size → w1.frozen? ⟨b, o, none⟩ = W.frozen? ⟨b, o, none⟩) :=
 ⟨fun b o h => hb.cell (p := ⟨b, o, none⟩) h, fun b o h => hb.frozen (p := ⟨b, o, none⟩) h⟩

def blanksB (p : List Nat) (c : List Int) : Bool := if p.any isSp then decide (p.length = 1) && eqB c [0] else !inB 0 c
theorem one_of {xs : List Int} (h : xs.length = 1) (h0 : 0 < xs.length) : xs = [xs[0]'h0] := by
 match xs, h with
 | [a], _ => rfl
theorem noSp_any {l : List Nat} {n : Nat} (hn : l.length = n) (h : ∀ i b, i < n → l[i]? = some b → isSp b = false) : l.any isSp = false := by
 rw [List.any_eq_false]
 intro x hx
 obtain ⟨i, hi, e⟩ := List.getElem_of_mem hx
 rw [h i x (by omega) (by rw [List.getElem?_eq_getElem hi, e])]; simp
theorem sp_any {l : List Nat} {j x : Nat} (h : l[j]? = some x) (hs : isSp x = true) : l.any isSp = true := by
 rw [List.any_eq_true]; exact ⟨x, List.mem_of_getElem? h, hs⟩
theorem allN_step {xs : List Nat} {P : Nat → Prop} {j : Nat} {y : Nat} (h : ∀ i z, i < j → xs[i]? = some z → P z) (hy : xs[j]? = some y) (hp : P y) : ∀ i z, i < j + 1 → xs[i]? = some z → P z := by
 intro i z hi e
 rcases Nat.lt_or_ge i j with g | g
 ·
  exact h i z g e
 ·
  obtain rfl : i = j := by omega
  rw [hy] at e; injection e with e; rw [← e]; exact hp
set_option maxRecDepth 10000 in
set_option maxHeartbeats 400000 in
theorem soundBlanks_any (A : Option Addr) (n k : Nat) (p : ByteArray) (xs : List Int) (l r f t : Int) (w : World) (hn : xs.length = n) (hx : Seq w w.heap.size A xs) (hp : p.size < 2 ^ 47) (hmax : n < 2 ^ 47) :
  Calls Try.prog 172 #[.agg #[.string p, .slice A n k, .int .u8 l, .int .u8 r, .int .i64 f, .int .i64 t]] w fun e w' => e = .returned (.bool (blanksB (bytes p) xs)) ∧ Below w.heap.size w w' := by
 have HN := Lib.hid hn
 have HL := Lib.hid (bytes_len p)
 clear hn
 go_enter Try.func172, Try.ntmps172
 go_wp2
 go_loop [7] (fun i => ∃ j : Nat, j ≤ p.size ∧ i = .int .i64 j ∧ ∀ i z, i < j → (bytes p)[i]? = some z → isSp z = false) (fun i => p.size - (intOf i).toNat)
 case atStart => exact ⟨0, by omega, rfl, fun i z h => absurd h (by omega)⟩
 case round =>
  obtain ⟨j, hj, rfl, hto⟩ := hrel
  have HTO := Lib.hid hto
  clear hto
  by_cases hlt : j < p.size
  ·
   have HAT := Lib.hid (bytes_at p j hlt)
   have hx8 := bytes_lt p _ (List.mem_of_getElem? (bytes_at p j hlt))
   generalize hxe : (p[j]'hlt).toNat = x at *
   have HXE := Lib.hid hxe
   obtain ⟨c, hc⟩ : ∃ c, isSp x = c := ⟨_, rfl⟩
   have HC := Lib.hid hc
   clear hc
   go_wp2_with fail
   refine (isSpace_any _ (by omega) (by omega) _).mono ?_; rintro e _ ⟨rfl, rfl⟩; rw [show isSpI x = c from HC.out]
   cases c
   ·
    go_wp2
    exact ⟨⟨j + 1, by omega, by go_num, allN_step (P := fun z => isSp z = false) HTO.out HAT.out HC.out⟩, by simp [intOf]; omega⟩
   ·
    have HS : Hid (blanksB (bytes p) xs = (decide (p.size = 1) && eqB xs [0])) := by unfold Hid blanksB; rw [sp_any HAT.out HC.out, HL.out]; rfl
    by_cases h1 : p.size = 1 ∧ n = 1
    ·
     obtain ⟨b1, o1, e1, hB1, c1⟩ := hx (by have := HN.out; omega)
     subst e1
     have d1 := c1 0 (by have := HN.out; omega)
     have HY : Hid (xs = [xs[0]'(by have := HN.out; omega)]) := one_of (by have := HN.out; omega) _
     clear c1 hx
     generalize xs[0]'(by have := HN.out; omega) = y at *
     have hbs : b1 ≠ w.heap.size := by omega
     have d2 : (w.alloc (.cells #[.string p, .slice (some ⟨b1, o1, none⟩) n k, .int .u8 l, .int .u8 r, .int .i64 f, .int .i64 t] 99)).cell? ⟨b1, o1, none⟩ = some (.int .u8 y) := ((below_box w _ _).cell (p := ⟨b1, o1, none⟩) hB1).trans d1
     have e1 : ((p.size : Int) == 1) = true := beq_iff_eq.2 (by omega)
     have e2 : ((n : Int) == 1) = true := beq_iff_eq.2 (by omega)
     obtain ⟨h1a, h1b⟩ := h1
     have H1A := Lib.hid h1a
     have H1B := Lib.hid h1b
     have h1c : 0 < n := by omega
     clear h1a h1b
     go_wp2
     go_ret
     refine ⟨ret_bool ?_, below_box w _ _⟩
     rw [HS.out, show decide (p.size = 1) = true from by simp [H1A.out], HY.out]
     unfold eqB; rw [Bool.eq_iff_iff]; simp
    ·
     have HF : Hid (blanksB (bytes p) xs = false) := by
      unfold Hid; rw [HS.out]
      by_cases h2 : p.size = 1
      ·
       have : ¬ xs = [0] := fun e => h1 ⟨h2, by rw [← HN.out, e]; rfl⟩
       rw [eqB_ne this]; simp
      ·
       rw [show decide (p.size = 1) = false from by simp [h2]]; rfl
     by_cases h2 : p.size = 1
     ·
      have e1 : ((p.size : Int) == 1) = true := beq_iff_eq.2 (by omega)
      have e2 : ((n : Int) == 1) = false := beq_eq_false_iff_ne.2 (by omega)
      clear h1 h2
      go_wp2
      go_ret
      exact ⟨ret_bool HF.out.symm, below_box w _ _⟩
     ·
      have e1 : ((p.size : Int) == 1) = false := beq_eq_false_iff_ne.2 (by omega)
      clear h1 h2
      go_wp2
      go_ret
      exact ⟨ret_bool HF.out.symm, below_box w _ _⟩
  ·
   have : j = p.size := by omega
   have HJ := Lib.hid this
   clear this
   have HS : Hid (blanksB (bytes p) xs = !inB 0 xs) := by
    unfold Hid blanksB
    rw [noSp_any (HL.out) (fun i b hi => HTO.out i b (by have := HJ.out; omega))]; rfl
   go_wp2_with fail
   refine (contains_any A n k xs 0 _ HN.out (hx.up (below_box w _ _)) hmax).mono ?_
   rintro e _ ⟨rfl, rfl⟩
   go_wp2
   go_ret
   exact ⟨ret_bool HS.out.symm, below_box w _ _⟩

theorem chain6 (b1 b2 b3 b4 b5 b6 : Bool) : (b1 = false) ∨ (b1 = true ∧ b2 = false) ∨ (b1 = true ∧ b2 = true ∧ b3 = false) ∨ (b1 = true ∧ b2 = true ∧ b3 = true ∧ b4 = false) ∨ (b1 = true ∧ b2 = true ∧ b3 = true ∧ b4 = true ∧ b5 = false) ∨ (b1 = true ∧ b2 = true ∧ b3 = true ∧ b4 = true ∧ b5 = true ∧ b6 = false) ∨ (b1 = true ∧ b2 = true ∧ b3 = true ∧ b4 = true ∧ b5 = true ∧ b6 = true) := by
 cases b1 <;> cases b2 <;> cases b3 <;> cases b4 <;> cases b5 <;> cases b6 <;> simp
theorem eqB_rule (x y : Rule) : eqB x y = (eqB x.p y.p && eqB x.c y.c && eqB x.l y.l && eqB x.r y.r && eqB x.f y.f && eqB x.t y.t) := by
 by_cases h : x = y
 ·
  subst h; simp [eqB]
 ·
  rw [eqB_ne h]
  symm
  rw [Bool.eq_false_iff]
  intro g
  simp only [eqB, Bool.and_eq_true, decide_eq_true_eq] at g
  exact h (Rule.ext_of g.1.1.1.1.1 g.1.1.1.1.2 g.1.1.1.2 g.1.1.2 g.1.2 g.2)
theorem eqB_int (a b : Int) : (a == b) = eqB a b := by rw [Bool.eq_iff_iff]; simp [eqB]
theorem eqB_str (a b : ByteArray) : (a.toList == b.toList) = eqB a b := by
 rw [Bool.eq_iff_iff]
 simp only [beq_iff_eq, eqB, decide_eq_true_eq, ByteArray.toList_eq]
 constructor
 ·
  intro h; cases a; cases b; simp only [ByteArray.mk.injEq]; exact Array.toList_inj.1 h
 ·
  rintro rfl; rfl
set_option maxRecDepth 10000 in
set_option maxHeartbeats 400000 in
theorem equal_any (A B : Option Addr) (n m k l : Nat) (x y : Rule) (w : World) (hn : x.c.length = n) (hm : y.c.length = m) (hx : Seq w w.heap.size A x.c) (hy : Seq w w.heap.size B y.c) (hmax : n < 2 ^ 47) :
  Calls Try.prog 175 #[.agg #[.string x.p, .slice A n k, .int .u8 x.l, .int .u8 x.r, .int .i64 x.f, .int .i64 x.t], .agg #[.string y.p, .slice B m l, .int .u8 y.l, .int .u8 y.r, .int .i64 y.f, .int .i64 y.t]] w fun e w' => e = .returned (.bool (eqB x y)) ∧ Below w.heap.size w w' := by
 have HE := Lib.hid (eqB_rule x y)
 have HN := Lib.hid hn
 have HM := Lib.hid hm
 clear hn hm
 have q1 := eqB_str x.p y.p
 obtain ⟨b2, hb2⟩ : ∃ b, eqB x.c y.c = b := ⟨_, rfl⟩
 have Q2 := Lib.hid hb2
 have q3 := eqB_int x.l y.l
 have q4 := eqB_int x.r y.r
 have q5 := eqB_int x.f y.f
 have q6 := eqB_int x.t y.t
 rw [hb2] at HE
 clear hb2
 generalize eqB x.p y.p = b1 at *
 generalize eqB x.l y.l = b3 at *
 generalize eqB x.r y.r = b4 at *
 generalize eqB x.f y.f = b5 at *
 generalize eqB x.t y.t = b6 at *
 rcases chain6 b1 b2 b3 b4 b5 b6 with rfl | ⟨rfl, rfl⟩ | ⟨rfl, rfl, rfl⟩ | ⟨rfl, rfl, rfl, rfl⟩ | ⟨rfl, rfl, rfl, rfl, rfl⟩ | ⟨rfl, rfl, rfl, rfl, rfl, rfl⟩ | ⟨rfl, rfl, rfl, rfl, rfl, rfl⟩
 all_goals
  go_enter Try.func175, Try.ntmps175
  have hbx : Hid (Below w.heap.size w ((w.alloc (.cells #[.string x.p, .slice A n k, .int .u8 x.l, .int .u8 x.r, .int .i64 x.f, .int .i64 x.t] 99)).alloc (.cells #[.string y.p, .slice B m l, .int .u8 y.l, .int .u8 y.r, .int .i64 y.f, .int .i64 y.t] 99))) := (below_box w _ _).alloc (by simp) _
  go_wp2_with (go_at_call 115; refine (equalCells_any _ _ _ _ _ _ _ _ _ HN.out HM.out (hx.up hbx.out) (hy.up hbx.out) hmax).mono ?_; rintro e w' ⟨rfl, hb'⟩; rw [Q2.out]; have hbw := Lib.hid (below_next hbx.out hb'); obtain ⟨hcc, hff⟩ := bcell hb'; have hzz := hb'.size; clear hb')
  go_ret
  exact ⟨ret_bool (by rw [HE.out]; rfl), by first | exact hbw.out | exact hbx.out⟩
set_option maxRecDepth 10000 in
set_option maxHeartbeats 400000 in
theorem sameRule_any (A B : Option Addr) (n m k l : Nat) (x y : Rule) (w : World) (hn : x.c.length = n) (hm : y.c.length = m) (hx : Seq w w.heap.size A x.c) (hy : Seq w w.heap.size B y.c) (hmax : n < 2 ^ 47) :
  Calls Try.prog 136 #[.agg #[.string x.p, .slice A n k, .int .u8 x.l, .int .u8 x.r, .int .i64 x.f, .int .i64 x.t], .agg #[.string y.p, .slice B m l, .int .u8 y.l, .int .u8 y.r, .int .i64 y.f, .int .i64 y.t]] w fun e w' => e = .returned (.bool (eqB x y)) ∧ Below w.heap.size w w' := by
 have HE := Lib.hid (eqB_rule x y)
 have HN := Lib.hid hn
 have HM := Lib.hid hm
 clear hn hm
 have q1 := eqB_str x.p y.p
 obtain ⟨b2, hb2⟩ : ∃ b, eqB x.c y.c = b := ⟨_, rfl⟩
 have Q2 := Lib.hid hb2
 have q3 := eqB_int x.l y.l
 have q4 := eqB_int x.r y.r
 have q5 := eqB_int x.f y.f
 have q6 := eqB_int x.t y.t
 rw [hb2] at HE
 clear hb2
 generalize eqB x.p y.p = b1 at *
 generalize eqB x.l y.l = b3 at *
 generalize eqB x.r y.r = b4 at *
 generalize eqB x.f y.f = b5 at *
 generalize eqB x.t y.t = b6 at *
 rcases chain6 b1 b2 b3 b4 b5 b6 with rfl | ⟨rfl, rfl⟩ | ⟨rfl, rfl, rfl⟩ | ⟨rfl, rfl, rfl, rfl⟩ | ⟨rfl, rfl, rfl, rfl, rfl⟩ | ⟨rfl, rfl, rfl, rfl, rfl, rfl⟩ | ⟨rfl, rfl, rfl, rfl, rfl, rfl⟩
 all_goals
  go_enter Try.func136, Try.ntmps136
  have hbx : Hid (Below w.heap.size w ((w.alloc (.cells #[.string x.p, .slice A n k, .int .u8 x.l, .int .u8 x.r, .int .i64 x.f, .int .i64 x.t] 99)).alloc (.cells #[.string y.p, .slice B m l, .int .u8 y.l, .int .u8 y.r, .int .i64 y.f, .int .i64 y.t] 99))) := (below_box w _ _).alloc (by simp) _
  go_wp2_with (go_at_call 77; refine (sameCells_any _ _ _ _ _ _ _ _ _ HN.out HM.out (hx.up hbx.out) (hy.up hbx.out) hmax).mono ?_; rintro e w' ⟨rfl, hb'⟩; rw [Q2.out]; have hbw := Lib.hid (below_next hbx.out hb'); obtain ⟨hcc, hff⟩ := bcell hb'; have hzz := hb'.size; clear hb')
  go_ret
  exact ⟨ret_bool (by rw [HE.out]; rfl), by first | exact hbw.out | exact hbx.out⟩
end Go.Proofs.Ytpkdlljefkbmpaa

/-! Package table: sound rules. -/
namespace Go.Proofs.Ytpkdlljefkbmpaa
open Go.RowKit

def soundB (x : Rule) (m : Int) : Bool := decide (x.p.size ≤ 4) && isTextB (bytes x.p) && cellsB x.c && blanksB (bytes x.p) x.c && maskB x.l && maskB x.r && modeB x.f m && modeB x.t m
theorem chain8 (b1 b2 b3 b4 b5 b6 b7 b8 : Bool) : (b1 = false) ∨ (b1 = true ∧ b2 = false) ∨ (b1 = true ∧ b2 = true ∧ b3 = false) ∨ (b1 = true ∧ b2 = true ∧ b3 = true ∧ b4 = false) ∨ (b1 = true ∧ b2 = true ∧ b3 = true ∧ b4 = true ∧ b5 = false) ∨ (b1 = true ∧ b2 = true ∧ b3 = true ∧ b4 = true ∧ b5 = true ∧ b6 = false) ∨ (b1 = true ∧ b2 = true ∧ b3 = true ∧ b4 = true ∧ b5 = true ∧ b6 = true ∧ b7 = false) ∨ (b1 = true ∧ b2 = true ∧ b3 = true ∧ b4 = true ∧ b5 = true ∧ b6 = true ∧ b7 = true ∧ b8 = false) ∨ (b1 = true ∧ b2 = true ∧ b3 = true ∧ b4 = true ∧ b5 = true ∧ b6 = true ∧ b7 = true ∧ b8 = true) := by
 cases b1 <;> cases b2 <;> cases b3 <;> cases b4 <;> cases b5 <;> cases b6 <;> cases b7 <;> cases b8 <;> simp
set_option maxRecDepth 10000 in
set_option maxHeartbeats 800000 in
theorem sound_any (A : Option Addr) (n k : Nat) (x : Rule) (m : Int) (w : World) (hn : x.c.length = n) (hx : Seq w w.heap.size A x.c) (hp : x.p.size < 2 ^ 47) (hmax : n < 2 ^ 47) :
  Calls Try.prog 153 #[.agg #[.string x.p, .slice A n k, .int .u8 x.l, .int .u8 x.r, .int .i64 x.f, .int .i64 x.t], .int .i64 m] w fun e w' => e = .returned (.bool (soundB x m)) ∧ Below w.heap.size w w' := by
 obtain ⟨v, hv⟩ : ∃ v, soundB x m = v := ⟨_, rfl⟩
 rw [hv]
 unfold soundB at hv
 have HV := Lib.hid hv
 have HN := Lib.hid hn
 clear hn hv
 obtain ⟨b1, hb1⟩ : ∃ b, decide (x.p.size ≤ 4) = b := ⟨_, rfl⟩
 obtain ⟨b2, hb2⟩ : ∃ b, isTextB (bytes x.p) = b := ⟨_, rfl⟩
 obtain ⟨b3, hb3⟩ : ∃ b, cellsB x.c = b := ⟨_, rfl⟩
 obtain ⟨b4, hb4⟩ : ∃ b, blanksB (bytes x.p) x.c = b := ⟨_, rfl⟩
 obtain ⟨b5, hb5⟩ : ∃ b, maskB x.l = b := ⟨_, rfl⟩
 obtain ⟨b6, hb6⟩ : ∃ b, maskB x.r = b := ⟨_, rfl⟩
 obtain ⟨b7, hb7⟩ : ∃ b, modeB x.f m = b := ⟨_, rfl⟩
 obtain ⟨b8, hb8⟩ : ∃ b, modeB x.t m = b := ⟨_, rfl⟩
 rw [hb1, hb2, hb3, hb4, hb5, hb6, hb7, hb8] at HV
 have H2 := Lib.hid hb2
 have H3 := Lib.hid hb3
 have H4 := Lib.hid hb4
 have H5 := Lib.hid hb5
 have H6 := Lib.hid hb6
 have H7 := Lib.hid hb7
 have H8 := Lib.hid hb8
 have hd1 : decide ((x.p.size : Int) ≤ 4) = b1 := by rw [← hb1]; rw [Bool.eq_iff_iff]; simp; omega
 clear hb1 hb2 hb3 hb4 hb5 hb6 hb7 hb8
 rcases chain8 b1 b2 b3 b4 b5 b6 b7 b8 with rfl | ⟨rfl, rfl⟩ | ⟨rfl, rfl, rfl⟩ | ⟨rfl, rfl, rfl, rfl⟩ | ⟨rfl, rfl, rfl, rfl, rfl⟩ | ⟨rfl, rfl, rfl, rfl, rfl, rfl⟩ | ⟨rfl, rfl, rfl, rfl, rfl, rfl, rfl⟩ | ⟨rfl, rfl, rfl, rfl, rfl, rfl, rfl, rfl⟩ | ⟨rfl, rfl, rfl, rfl, rfl, rfl, rfl, rfl⟩
 all_goals
  go_enter Try.func153, Try.ntmps153
  have hbx : Hid (Below w.heap.size w (w.alloc (.cells #[.string x.p, .slice A n k, .int .u8 x.l, .int .u8 x.r, .int .i64 x.f, .int .i64 x.t] 99))) := below_box w _ _
  go_wp2_with (first
   | (go_at_call 170; refine (isText_any _ _ (by omega)).mono ?_; rintro e w' ⟨rfl, rfl⟩; rw [H2.out])
   | (go_at_call 171; refine (soundCells_any _ _ _ _ _ HN.out (hx.up hbx.out) hmax).mono ?_; rintro e w' ⟨rfl, rfl⟩; rw [H3.out])
   | (go_at_call 172; refine (soundBlanks_any _ _ _ _ _ _ _ _ _ _ HN.out (hx.up hbx.out) hp hmax).mono ?_; rintro e w' ⟨rfl, hb'⟩; rw [H4.out]; have hbw := Lib.hid (below_next hbx.out hb'); obtain ⟨hcc, hff⟩ := bcell hb'; have hzz := hb'.size; clear hb')
   | (go_at_call 173; refine (soundMask_any _ _).mono ?_; rintro e w' ⟨rfl, rfl⟩; first | rw [H5.out] | rw [H6.out])
   | (go_at_call 174; refine (soundMode_any _ _ _).mono ?_; rintro e w' ⟨rfl, rfl⟩; first | rw [H7.out] | rw [H8.out]))
  go_ret
  exact ⟨ret_bool (by rw [← HV.out]; rfl), by first | exact hbw.out | exact hbx.out⟩
end Go.Proofs.Ytpkdlljefkbmpaa
