/- Package table: soundBlanks; rules compared. -/
import Derived.Test.YtiedaongfjcbhaaTab5
namespace Go.Proofs.Ytiedaongfjcbhaa
open Go.RowKit

theorem Seq.up {w w' : World} {A : Option Addr} {xs : List Int} (h : Seq w w.heap.size A xs) (hb : Below w.heap.size w w') : Seq w' w'.heap.size A xs := (h.keep hb).more hb.size
theorem below_box (w : World) (cs : Array Value) (t : TypeId) : Below w.heap.size w (w.alloc (.cells cs t)) := (Below.refl _ _).alloc (Nat.le_refl _) _

/-- What lay below is as it was. -/
theorem bcell {W w1 : World} (hb : Below W.heap.size W w1) : (∀ b o, b < W.heap.size → w1.cell? ⟨b, o, none⟩ = W.cell? ⟨b, o, none⟩) ∧ (∀ b o, b < W.heap.size → w1.frozen? ⟨b, o, none⟩ = W.frozen? ⟨b, o, none⟩) :=
  ⟨fun b o h => hb.cell (p := ⟨b, o, none⟩) h, fun b o h => hb.frozen (p := ⟨b, o, none⟩) h⟩

def blanksB (p : List Nat) (c : List Int) : Bool := if p.any isSp then decide (p.length = 1) && eqB c [0] else !inB 0 c
theorem one_of {xs : List Int} (h : xs.length = 1) (h0 : 0 < xs.length) : xs = [xs[0]'h0] := by
  match xs, h with
  | [a], _ => rfl
theorem noSp_any {l : List Nat} {n : Nat} (hn : l.length = n) (h : ∀ i b, i < n → l[i]? = some b → isSp b = false) : l.any isSp = false := by
  rw [List.any_eq_false]
  intro x hx
  obtain ⟨i, hi, e⟩ := List.getElem_of_mem hx
  rw [h i x (by omega) (by rw [List.getElem?_eq_getElem hi, e])]; simp
theorem sp_any {l : List Nat} {j x : Nat} (h : l[j]? = some x) (hs : isSp x = true) : l.any isSp = true := by
  rw [List.any_eq_true]; exact ⟨x, List.mem_of_getElem? h, hs⟩
theorem allN_step {xs : List Nat} {P : Nat → Prop} {j : Nat} {y : Nat} (h : ∀ i z, i < j → xs[i]? = some z → P z) (hy : xs[j]? = some y) (hp : P y) : ∀ i z, i < j + 1 → xs[i]? = some z → P z := by
  intro i z hi e
  rcases Nat.lt_or_ge i j with g | g
  · exact h i z g e
  · obtain rfl : i = j := by omega
    rw [hy] at e; injection e with e; rw [← e]; exact hp
theorem chain6 (b1 b2 b3 b4 b5 b6 : Bool) : (b1 = false) ∨ (b1 = true ∧ b2 = false) ∨ (b1 = true ∧ b2 = true ∧ b3 = false) ∨ (b1 = true ∧ b2 = true ∧ b3 = true ∧ b4 = false) ∨ (b1 = true ∧ b2 = true ∧ b3 = true ∧ b4 = true ∧ b5 = false) ∨ (b1 = true ∧ b2 = true ∧ b3 = true ∧ b4 = true ∧ b5 = true ∧ b6 = false) ∨ (b1 = true ∧ b2 = true ∧ b3 = true ∧ b4 = true ∧ b5 = true ∧ b6 = true) := by
  cases b1 <;> cases b2 <;> cases b3 <;> cases b4 <;> cases b5 <;> cases b6 <;> simp
theorem eqB_rule (x y : Rule) : eqB x y = (eqB x.p y.p && eqB x.c y.c && eqB x.l y.l && eqB x.r y.r && eqB x.f y.f && eqB x.t y.t) := by
  by_cases h : x = y
  · subst h; simp [eqB]
  · rw [eqB_ne h]
    symm
    rw [Bool.eq_false_iff]
    intro g
    simp only [eqB, Bool.and_eq_true, decide_eq_true_eq] at g
    exact h (Rule.ext_of g.1.1.1.1.1 g.1.1.1.1.2 g.1.1.1.2 g.1.1.2 g.1.2 g.2)
theorem eqB_int (a b : Int) : (a == b) = eqB a b := by rw [Bool.eq_iff_iff]; simp [eqB]
theorem eqB_str (a b : ByteArray) : (a.toList == b.toList) = eqB a b := by
  rw [Bool.eq_iff_iff]
  simp only [beq_iff_eq, eqB, decide_eq_true_eq, ByteArray.toList_eq]
  constructor
  · intro h; cases a; cases b; simp only [ByteArray.mk.injEq]; exact Array.toList_inj.1 h
  · rintro rfl; rfl
set_option maxRecDepth 10000 in
set_option maxHeartbeats 400000 in
theorem sameRule_any (A B : Option Addr) (n m k l : Nat) (x y : Rule) (w : World) (hn : x.c.length = n) (hm : y.c.length = m) (hx : Seq w w.heap.size A x.c) (hy : Seq w w.heap.size B y.c) (hmax : n < 2 ^ 47) :
    Calls Try.prog 53 #[.agg #[.string x.p, .slice A n k, .int .u8 x.l, .int .u8 x.r, .int .i64 x.f, .int .i64 x.t], .agg #[.string y.p, .slice B m l, .int .u8 y.l, .int .u8 y.r, .int .i64 y.f, .int .i64 y.t]] w fun e w' => e = .returned (.bool (eqB x y)) ∧ Below w.heap.size w w' := by
  have HE := Lib.hid (eqB_rule x y)
  have HN := Lib.hid hn
  have HM := Lib.hid hm
  clear hn hm
  have q1 := eqB_str x.p y.p
  obtain ⟨b2, hb2⟩ : ∃ b, eqB x.c y.c = b := ⟨_, rfl⟩
  have Q2 := Lib.hid hb2
  have q3 := eqB_int x.l y.l
  have q4 := eqB_int x.r y.r
  have q5 := eqB_int x.f y.f
  have q6 := eqB_int x.t y.t
  rw [hb2] at HE
  clear hb2
  generalize eqB x.p y.p = b1 at *
  generalize eqB x.l y.l = b3 at *
  generalize eqB x.r y.r = b4 at *
  generalize eqB x.f y.f = b5 at *
  generalize eqB x.t y.t = b6 at *
  rcases chain6 b1 b2 b3 b4 b5 b6 with rfl | ⟨rfl, rfl⟩ | ⟨rfl, rfl, rfl⟩ | ⟨rfl, rfl, rfl, rfl⟩ | ⟨rfl, rfl, rfl, rfl, rfl⟩ | ⟨rfl, rfl, rfl, rfl, rfl, rfl⟩ | ⟨rfl, rfl, rfl, rfl, rfl, rfl⟩
  all_goals
    go_enter Try.func53, Try.ntmps53
    have hbx : Hid (Below w.heap.size w ((w.alloc (.cells #[.string x.p, .slice A n k, .int .u8 x.l, .int .u8 x.r, .int .i64 x.f, .int .i64 x.t] 55)).alloc (.cells #[.string y.p, .slice B m l, .int .u8 y.l, .int .u8 y.r, .int .i64 y.f, .int .i64 y.t] 55))) := (below_box w _ _).alloc (by simp) _
    go_wp2_with (go_at_call 35; refine (sameCells_any _ _ _ _ _ _ _ _ _ HN.out HM.out (hx.up hbx.out) (hy.up hbx.out) hmax).mono ?_; rintro e w' ⟨rfl, hb'⟩; rw [Q2.out]; have hbw := Lib.hid (below_next hbx.out hb'); obtain ⟨hcc, hff⟩ := bcell hb'; have hzz := hb'.size; clear hb')
    go_ret
    exact ⟨ret_bool (by rw [HE.out]; rfl), by first | exact hbw.out | exact hbx.out⟩
end Go.Proofs.Ytiedaongfjcbhaa
