/- Package table: soundBlanks; rules compared. -/
import Derived.Test.YtiedaongfjcbhabGreatDoorTab5
namespace Go.Proofs.YtiedaongfjcbhabGreatDoor
open Go.RowKit

theorem Seq.up {w w' : World} {A : Option Addr} {xs : List Int} (h : Seq w w.heap.size A xs) (hb : Below w.heap.size w w') : Seq w' w'.heap.size A xs := (h.keep hb).more hb.size
theorem below_box (w : World) (cs : Array Value) (t : TypeId) : Below w.heap.size w (w.alloc (.cells cs t)) := (Below.refl _ _).alloc (Nat.le_refl _) _

/-- What lay below is as it was. -/
theorem bcell {W w1 : World} (hb : Below W.heap.size W w1) : (∀ b o, b < W.heap.size → w1.cell? ⟨b, o, none⟩ = W.cell? ⟨b, o, none⟩) ∧ (∀ b o, b < W.heap.size → w1.frozen? ⟨b, o, none⟩ = W.frozen? ⟨b, o, none⟩) :=
  ⟨fun b o h => hb.cell (p := ⟨b, o, none⟩) h, fun b o h => hb.frozen (p := ⟨b, o, none⟩) h⟩

def blanksB (p : List Nat) (c : List Int) : Bool := if p.any isSp then decide (p.length = 1) && eqB c [0] else !inB 0 c
theorem one_of {xs : List Int} (h : xs.length = 1) (h0 : 0 < xs.length) : xs = [xs[0]'h0] := by
  match xs, h with
  | [a], _ => rfl
theorem noSp_any {l : List Nat} {n : Nat} (hn : l.length = n) (h : ∀ i b, i < n → l[i]? = some b → isSp b = false) : l.any isSp = false := by
  rw [List.any_eq_false]
  intro x hx
  obtain ⟨i, hi, e⟩ := List.getElem_of_mem hx
  rw [h i x (by omega) (by rw [List.getElem?_eq_getElem hi, e])]; simp
theorem sp_any {l : List Nat} {j x : Nat} (h : l[j]? = some x) (hs : isSp x = true) : l.any isSp = true := by
  rw [List.any_eq_true]; exact ⟨x, List.mem_of_getElem? h, hs⟩
theorem allN_step {xs : List Nat} {P : Nat → Prop} {j : Nat} {y : Nat} (h : ∀ i z, i < j → xs[i]? = some z → P z) (hy : xs[j]? = some y) (hp : P y) : ∀ i z, i < j + 1 → xs[i]? = some z → P z := by
  intro i z hi e
  rcases Nat.lt_or_ge i j with g | g
  · exact h i z g e
  · obtain rfl : i = j := by omega
    rw [hy] at e; injection e with e; rw [← e]; exact hp
set_option maxRecDepth 10000 in
set_option maxHeartbeats 400000 in
theorem soundBlanks_any (A : Option Addr) (n k : Nat) (p : ByteArray) (xs : List Int) (l r f t : Int) (w : World) (hn : xs.length = n) (hx : Seq w w.heap.size A xs) (hp : p.size < 2 ^ 47) (hmax : n < 2 ^ 47) :
    Calls Tryz.prog 52 #[.agg #[.string p, .slice A n k, .int .u8 l, .int .u8 r, .int .i64 f, .int .i64 t]] w fun e w' => e = .returned (.bool (blanksB (bytes p) xs)) ∧ Below w.heap.size w w' := by
  have HN := Lib.hid hn
  have HL := Lib.hid (bytes_len p)
  clear hn
  go_enter Tryz.func52, Tryz.ntmps52
  go_wp2
  go_loop [7] (fun i => ∃ j : Nat, j ≤ p.size ∧ i = .int .i64 j ∧ ∀ i z, i < j → (bytes p)[i]? = some z → isSp z = false) (fun i => p.size - (intOf i).toNat)
  case atStart => exact ⟨0, by omega, rfl, fun i z h => absurd h (by omega)⟩
  case round =>
    obtain ⟨j, hj, rfl, hto⟩ := hrel
    have HTO := Lib.hid hto
    clear hto
    by_cases hlt : j < p.size
    · have HAT := Lib.hid (bytes_at p j hlt)
      have hx8 := bytes_lt p _ (List.mem_of_getElem? (bytes_at p j hlt))
      generalize hxe : (p[j]'hlt).toNat = x at *
      have HXE := Lib.hid hxe
      obtain ⟨c, hc⟩ : ∃ c, isSp x = c := ⟨_, rfl⟩
      have HC := Lib.hid hc
      clear hc
      go_wp2_with fail
      refine (isSpace_any _ (by omega) (by omega) _).mono ?_; rintro e _ ⟨rfl, rfl⟩; rw [show isSpI x = c from HC.out]
      cases c
      · go_wp2
        exact ⟨⟨j + 1, by omega, by go_num, allN_step (P := fun z => isSp z = false) HTO.out HAT.out HC.out⟩, by simp [intOf]; omega⟩
      · have HS : Hid (blanksB (bytes p) xs = (decide (p.size = 1) && eqB xs [0])) := by unfold Hid blanksB; rw [sp_any HAT.out HC.out, HL.out]; rfl
        by_cases h1 : p.size = 1 ∧ n = 1
        · obtain ⟨b1, o1, e1, hB1, c1⟩ := hx (by have := HN.out; omega)
          subst e1
          have d1 := c1 0 (by have := HN.out; omega)
          have HY : Hid (xs = [xs[0]'(by have := HN.out; omega)]) := one_of (by have := HN.out; omega) _
          clear c1 hx
          generalize xs[0]'(by have := HN.out; omega) = y at *
          have hbs : b1 ≠ w.heap.size := by omega
          have d2 : (w.alloc (.cells #[.string p, .slice (some ⟨b1, o1, none⟩) n k, .int .u8 l, .int .u8 r, .int .i64 f, .int .i64 t] 43)).cell? ⟨b1, o1, none⟩ = some (.int .u8 y) := ((below_box w _ _).cell (p := ⟨b1, o1, none⟩) hB1).trans d1
          have e1 : ((p.size : Int) == 1) = true := beq_iff_eq.2 (by omega)
          have e2 : ((n : Int) == 1) = true := beq_iff_eq.2 (by omega)
          obtain ⟨h1a, h1b⟩ := h1
          have H1A := Lib.hid h1a
          have H1B := Lib.hid h1b
          have h1c : 0 < n := by omega
          clear h1a h1b
          go_wp2
          go_ret
          refine ⟨ret_bool ?_, below_box w _ _⟩
          rw [HS.out, show decide (p.size = 1) = true from by simp [H1A.out], HY.out]
          unfold eqB; rw [Bool.eq_iff_iff]; simp
        · have HF : Hid (blanksB (bytes p) xs = false) := by
            unfold Hid; rw [HS.out]
            by_cases h2 : p.size = 1
            · have : ¬ xs = [0] := fun e => h1 ⟨h2, by rw [← HN.out, e]; rfl⟩
              rw [eqB_ne this]; simp
            · rw [show decide (p.size = 1) = false from by simp [h2]]; rfl
          by_cases h2 : p.size = 1
          · have e1 : ((p.size : Int) == 1) = true := beq_iff_eq.2 (by omega)
            have e2 : ((n : Int) == 1) = false := beq_eq_false_iff_ne.2 (by omega)
            clear h1 h2
            go_wp2
            go_ret
            exact ⟨ret_bool HF.out.symm, below_box w _ _⟩
          · have e1 : ((p.size : Int) == 1) = false := beq_eq_false_iff_ne.2 (by omega)
            clear h1 h2
            go_wp2
            go_ret
            exact ⟨ret_bool HF.out.symm, below_box w _ _⟩
    · have : j = p.size := by omega
      have HJ := Lib.hid this
      clear this
      have HS : Hid (blanksB (bytes p) xs = !inB 0 xs) := by
        unfold Hid blanksB
        rw [noSp_any (HL.out) (fun i b hi => HTO.out i b (by have := HJ.out; omega))]; rfl
      go_wp2_with fail
      refine (contains_any A n k xs 0 _ HN.out (hx.up (below_box w _ _)) hmax).mono ?_
      rintro e _ ⟨rfl, rfl⟩
      go_wp2
      go_ret
      exact ⟨ret_bool HS.out.symm, below_box w _ _⟩

theorem chain6 (b1 b2 b3 b4 b5 b6 : Bool) : (b1 = false) ∨ (b1 = true ∧ b2 = false) ∨ (b1 = true ∧ b2 = true ∧ b3 = false) ∨ (b1 = true ∧ b2 = true ∧ b3 = true ∧ b4 = false) ∨ (b1 = true ∧ b2 = true ∧ b3 = true ∧ b4 = true ∧ b5 = false) ∨ (b1 = true ∧ b2 = true ∧ b3 = true ∧ b4 = true ∧ b5 = true ∧ b6 = false) ∨ (b1 = true ∧ b2 = true ∧ b3 = true ∧ b4 = true ∧ b5 = true ∧ b6 = true) := by
  cases b1 <;> cases b2 <;> cases b3 <;> cases b4 <;> cases b5 <;> cases b6 <;> simp
theorem eqB_rule (x y : Rule) : eqB x y = (eqB x.p y.p && eqB x.c y.c && eqB x.l y.l && eqB x.r y.r && eqB x.f y.f && eqB x.t y.t) := by
  by_cases h : x = y
  · subst h; simp [eqB]
  · rw [eqB_ne h]
    symm
    rw [Bool.eq_false_iff]
    intro g
    simp only [eqB, Bool.and_eq_true, decide_eq_true_eq] at g
    exact h (Rule.ext_of g.1.1.1.1.1 g.1.1.1.1.2 g.1.1.1.2 g.1.1.2 g.1.2 g.2)
theorem eqB_int (a b : Int) : (a == b) = eqB a b := by rw [Bool.eq_iff_iff]; simp [eqB]
theorem eqB_str (a b : ByteArray) : (a.toList == b.toList) = eqB a b := by
  rw [Bool.eq_iff_iff]
  simp only [beq_iff_eq, eqB, decide_eq_true_eq, ByteArray.toList_eq]
  constructor
  · intro h; cases a; cases b; simp only [ByteArray.mk.injEq]; exact Array.toList_inj.1 h
  · rintro rfl; rfl
set_option maxRecDepth 10000 in
set_option maxHeartbeats 400000 in
theorem equal_any (A B : Option Addr) (n m k l : Nat) (x y : Rule) (w : World) (hn : x.c.length = n) (hm : y.c.length = m) (hx : Seq w w.heap.size A x.c) (hy : Seq w w.heap.size B y.c) (hmax : n < 2 ^ 47) :
    Calls Tryz.prog 55 #[.agg #[.string x.p, .slice A n k, .int .u8 x.l, .int .u8 x.r, .int .i64 x.f, .int .i64 x.t], .agg #[.string y.p, .slice B m l, .int .u8 y.l, .int .u8 y.r, .int .i64 y.f, .int .i64 y.t]] w fun e w' => e = .returned (.bool (eqB x y)) ∧ Below w.heap.size w w' := by
  have HE := Lib.hid (eqB_rule x y)
  have HN := Lib.hid hn
  have HM := Lib.hid hm
  clear hn hm
  have q1 := eqB_str x.p y.p
  obtain ⟨b2, hb2⟩ : ∃ b, eqB x.c y.c = b := ⟨_, rfl⟩
  have Q2 := Lib.hid hb2
  have q3 := eqB_int x.l y.l
  have q4 := eqB_int x.r y.r
  have q5 := eqB_int x.f y.f
  have q6 := eqB_int x.t y.t
  rw [hb2] at HE
  clear hb2
  generalize eqB x.p y.p = b1 at *
  generalize eqB x.l y.l = b3 at *
  generalize eqB x.r y.r = b4 at *
  generalize eqB x.f y.f = b5 at *
  generalize eqB x.t y.t = b6 at *
  rcases chain6 b1 b2 b3 b4 b5 b6 with rfl | ⟨rfl, rfl⟩ | ⟨rfl, rfl, rfl⟩ | ⟨rfl, rfl, rfl, rfl⟩ | ⟨rfl, rfl, rfl, rfl, rfl⟩ | ⟨rfl, rfl, rfl, rfl, rfl, rfl⟩ | ⟨rfl, rfl, rfl, rfl, rfl, rfl⟩
  all_goals
    go_enter Tryz.func55, Tryz.ntmps55
    have hbx : Hid (Below w.heap.size w ((w.alloc (.cells #[.string x.p, .slice A n k, .int .u8 x.l, .int .u8 x.r, .int .i64 x.f, .int .i64 x.t] 43)).alloc (.cells #[.string y.p, .slice B m l, .int .u8 y.l, .int .u8 y.r, .int .i64 y.f, .int .i64 y.t] 43))) := (below_box w _ _).alloc (by simp) _
    go_wp2_with (go_at_call 67; refine (equalCells_any _ _ _ _ _ _ _ _ _ HN.out HM.out (hx.up hbx.out) (hy.up hbx.out) hmax).mono ?_; rintro e w' ⟨rfl, hb'⟩; rw [Q2.out]; have hbw := Lib.hid (below_next hbx.out hb'); obtain ⟨hcc, hff⟩ := bcell hb'; have hzz := hb'.size; clear hb')
    go_ret
    exact ⟨ret_bool (by rw [HE.out]; rfl), by first | exact hbw.out | exact hbx.out⟩
set_option maxRecDepth 10000 in
set_option maxHeartbeats 400000 in
theorem sameRule_any (A B : Option Addr) (n m k l : Nat) (x y : Rule) (w : World) (hn : x.c.length = n) (hm : y.c.length = m) (hx : Seq w w.heap.size A x.c) (hy : Seq w w.heap.size B y.c) (hmax : n < 2 ^ 47) :
    Calls Tryz.prog 27 #[.agg #[.string x.p, .slice A n k, .int .u8 x.l, .int .u8 x.r, .int .i64 x.f, .int .i64 x.t], .agg #[.string y.p, .slice B m l, .int .u8 y.l, .int .u8 y.r, .int .i64 y.f, .int .i64 y.t]] w fun e w' => e = .returned (.bool (eqB x y)) ∧ Below w.heap.size w w' := by
  have HE := Lib.hid (eqB_rule x y)
  have HN := Lib.hid hn
  have HM := Lib.hid hm
  clear hn hm
  have q1 := eqB_str x.p y.p
  obtain ⟨b2, hb2⟩ : ∃ b, eqB x.c y.c = b := ⟨_, rfl⟩
  have Q2 := Lib.hid hb2
  have q3 := eqB_int x.l y.l
  have q4 := eqB_int x.r y.r
  have q5 := eqB_int x.f y.f
  have q6 := eqB_int x.t y.t
  rw [hb2] at HE
  clear hb2
  generalize eqB x.p y.p = b1 at *
  generalize eqB x.l y.l = b3 at *
  generalize eqB x.r y.r = b4 at *
  generalize eqB x.f y.f = b5 at *
  generalize eqB x.t y.t = b6 at *
  rcases chain6 b1 b2 b3 b4 b5 b6 with rfl | ⟨rfl, rfl⟩ | ⟨rfl, rfl, rfl⟩ | ⟨rfl, rfl, rfl, rfl⟩ | ⟨rfl, rfl, rfl, rfl, rfl⟩ | ⟨rfl, rfl, rfl, rfl, rfl, rfl⟩ | ⟨rfl, rfl, rfl, rfl, rfl, rfl⟩
  all_goals
    go_enter Tryz.func27, Tryz.ntmps27
    have hbx : Hid (Below w.heap.size w ((w.alloc (.cells #[.string x.p, .slice A n k, .int .u8 x.l, .int .u8 x.r, .int .i64 x.f, .int .i64 x.t] 43)).alloc (.cells #[.string y.p, .slice B m l, .int .u8 y.l, .int .u8 y.r, .int .i64 y.f, .int .i64 y.t] 43))) := (below_box w _ _).alloc (by simp) _
    go_wp2_with (go_at_call 50; refine (sameCells_any _ _ _ _ _ _ _ _ _ HN.out HM.out (hx.up hbx.out) (hy.up hbx.out) hmax).mono ?_; rintro e w' ⟨rfl, hb'⟩; rw [Q2.out]; have hbw := Lib.hid (below_next hbx.out hb'); obtain ⟨hcc, hff⟩ := bcell hb'; have hzz := hb'.size; clear hb')
    go_ret
    exact ⟨ret_bool (by rw [HE.out]; rfl), by first | exact hbw.out | exact hbx.out⟩
end Go.Proofs.YtiedaongfjcbhabGreatDoor
