/- Merged by program: Gr5 Gr6 Gr7 Gr8 Gr9 -/
import Derived.Test.YtpkdlljefkbmpaaQ15
import Derived.Deep.LoopGhost
import Derived.Deep.CutBlock

/-! Package automaton: explore. -/
namespace Go.Proofs.Ytpkdlljefkbmpaa
open Go.RowKit Go.Maps

theorem insS_grow (L : List St) (s : St) : L.length ≤ (insS L s).length := by
 unfold insS; split
 ·
  exact Nat.le_refl _
 ·
  simp
theorem row_grow {rs : List Rule} {i : Nat} {s : St} (G : Gr) : ∀ n, G.1.length ≤ (rowG rs i s n G).1.length := by
 intro n
 induction n with
 | zero => exact Nat.le_refl _
 | succ n ih =>
  refine Nat.le_trans ih ?_
  show _ ≤ (edgeG rs i s n (rowG rs i s n G)).1.length
  unfold edgeG
  split
  ·
   exact insS_grow _ _
  ·
   exact Nat.le_refl _
def stE (w4 : World) (vv : Value) (ll : List Nat) (j : Nat) (b : Nat → Bool) (y : Nat → Value) (w : World) : Prop :=
 w4.grownBy w vv.ownBlock ∧ (b 10 = false → w.ownsRow 0 3 1 vv ll.length (ll.map fun i : Nat => Value.int .i64 i)) ∧
 (b 10 = true → w.ownsRow 0 3 1 (y 10) (ll.length + 1) ((ll.map fun i : Nat => Value.int .i64 i) ++ [.int .i64 j]) ∧ ((y 10).ownBlock = vv.ownBlock ∨ ∃ b, (y 10).ownBlock = some b ∧ w4.heap.size ≤ b))
theorem stE.set {w4 w w' : World} {vv : Value} {ll : List Nat} {j i : Nat} {b : Nat → Bool} {y : Nat → Value} {v : Value} (h : stE w4 vv ll j b y w) (hi : i ≠ 10) (hb : ∀ g, g < w.heap.size → w'.heap[g]? = w.heap[g]?) (hs : w.heap.size ≤ w'.heap.size) (hu : w'.os = w.os ∧ w'.tape = w.tape ∧ w'.output = w.output) :
  stE w4 vv ll j (fun j => if j = i then true else b j) (upd y i v) w' := by
 obtain ⟨h1, h2, h3⟩ := h
 have e1 : (if 10 = i then true else b 10) = b 10 := if_neg (fun e => hi e.symm)
 have e2 : upd y i v 10 = y 10 := by unfold upd; exact if_neg (fun e => hi e.symm)
 have hm : ∀ {base n : Nat} {e : TypeId} {x : Value} {xs : List Value}, w.ownsRow base e 1 x n xs → w'.ownsRow base e 1 x n xs := fun ho => own_move ho fun g hg => by
  obtain ⟨cur, hc⟩ := own_blk ho hg
  exact hb g hc.lt
 refine ⟨⟨hu.1.trans h1.os, hu.2.1.trans h1.tape, hu.2.2.trans h1.output, Nat.le_trans h1.size hs, fun g hg hne => (hb g (Nat.lt_of_lt_of_le hg h1.size)).trans (h1.block g hg hne)⟩, fun hf => hm (h2 (by rw [← e1]; exact hf)), fun hf => ?_⟩
 rw [e2]
 obtain ⟨g1, g2⟩ := h3 (by rw [← e1]; exact hf)
 exact ⟨hm g1, g2⟩
theorem stE.same {w4 w : World} {vv : Value} {ll : List Nat} {j i : Nat} {b : Nat → Bool} {y : Nat → Value} {v : Value} (h : stE w4 vv ll j b y w) (hi : i ≠ 10) : stE w4 vv ll j (fun j => if j = i then true else b j) (upd y i v) w := h.set hi (fun _ _ => rfl) (Nat.le_refl _) ⟨rfl, rfl, rfl⟩
end Go.Proofs.Ytpkdlljefkbmpaa

/-! Package automaton: States; the reference's Index. -/
namespace Go.Proofs.Ytpkdlljefkbmpaa
open Go.RowKit Go.Maps

def StAt (w : World) (B : Nat) (A : Option Addr) (L : List St) : Prop :=
 0 < L.length → ∃ b, A = some ⟨b, 0, none⟩ ∧ b < B ∧ ∀ j (h : j < L.length), w.cell? ⟨b, j * 3, none⟩ = some (.int .i64 L[j].mode) ∧ w.cell? ⟨b, j * 3 + 1, none⟩ = some (.int .i64 L[j].last) ∧ w.cell? ⟨b, j * 3 + 2, none⟩ = some (.int .u8 L[j].need)
theorem StAt.keep {w w' : World} {B : Nat} {A : Option Addr} {L : List St} (h : StAt w B A L) (hb : Below B w w') : StAt w' B A L := fun h0 => by
 obtain ⟨b, e, hB, hc⟩ := h h0
 have key : ∀ i, w'.cell? ⟨b, i, none⟩ = w.cell? ⟨b, i, none⟩ := fun i => hb.cell (p := ⟨b, i, none⟩) hB
 exact ⟨b, e, hB, fun j hj => ⟨(key _).trans (hc j hj).1, (key _).trans (hc j hj).2.1, (key _).trans (hc j hj).2.2⟩⟩
theorem StAt.more {w : World} {B B' : Nat} {A : Option Addr} {L : List St} (h : StAt w B A L) (hB : B ≤ B') : StAt w B' A L := fun h0 => by
 obtain ⟨b, e, hb, hc⟩ := h h0
 exact ⟨b, e, by omega, hc⟩
theorem StAt.up {w w' : World} {A : Option Addr} {L : List St} (h : StAt w w.heap.size A L) (hb : Below w.heap.size w w') : StAt w' w'.heap.size A L := (h.keep hb).more hb.size
theorem own_stAt {w : World} {base k n : Nat} {A : Option Addr} {L : List St} (h : w.ownsRow base 47 3 (.slice A n k) L.length (L.flatMap St.cs)) : StAt w w.heap.size A L := fun h0 => by
 obtain ⟨b, e, hb, _⟩ := st_cells h h0
 subst e
 refine ⟨b, rfl, hb, fun j hj => ?_⟩
 obtain ⟨b', e', _, c0, c1, c2⟩ := st_cells h hj
 injection e' with e'
 injection e' with e'
 subst e'
 exact ⟨c0, c1, c2⟩
def StEnd (rs : List Rule) (w : World) (e : Ending) (w' : World) : Prop := ∃ A k, e = .returned (.slice A (theG rs).1.length k) ∧ StAt w' w'.heap.size A (theG rs).1 ∧ Below w.heap.size w w'
def idxI (L : List St) (s : St) : Int := if s ∈ L then (L.idxOf s : Nat) else -1
theorem idx_le {s : St} : ∀ {L : List St} {j : Nat}, L[j]? = some s → L.idxOf s ≤ j := by
 intro L
 induction L with
 | nil => intro j h; simp at h
 | cons t L ih =>
  intro j h
  rw [List.idxOf_cons]
  by_cases e : t = s
  ·
   subst e; simp
  ·
   cases j with
   | zero => simp at h; exact absurd h e
   | succ j =>
    have := ih (j := j) (by simpa using h)
    have hb : (t == s) = false := by simpa using e
    rw [hb]
    simp only [cond_false]
    omega
theorem idx_at {L : List St} {s : St} {j : Nat} (h : ∀ i, i < j → L[i]? ≠ some s) (hj : L[j]? = some s) : idxI L s = j := by
 have hm : s ∈ L := List.mem_of_getElem? hj
 unfold idxI
 rw [if_pos hm]
 have h1 := List.idxOf_lt_length_iff.2 hm
 have h2 : L[L.idxOf s]? = some s := by rw [List.getElem?_eq_getElem h1, List.getElem_idxOf]
 have h3 : ¬ L.idxOf s < j := fun hl => h _ hl h2
 have h4 := idx_le hj
 congr 1
 omega
theorem idx_no {L : List St} {s : St} (h : ∀ i, i < L.length → L[i]? ≠ some s) : idxI L s = -1 := by
 unfold idxI
 rw [if_neg]
 intro hm
 obtain ⟨i, hi, e⟩ := List.getElem_of_mem hm
 exact h i hi (by rw [List.getElem?_eq_getElem hi, e])
theorem no_step {L : List St} {s : St} {j : Nat} {t : St} (h : ∀ i, i < j → L[i]? ≠ some s) (hj : L[j]? = some t) (hne : t ≠ s) : ∀ i, i < j + 1 → L[i]? ≠ some s := fun i hi => by
 by_cases hij : i = j
 ·
  subst hij; rw [hj]; intro e; injection e with e; exact hne e
 ·
  exact h i (by omega)
set_option maxRecDepth 10000 in
set_option maxHeartbeats 1000000 in
theorem index_st (A : Option Addr) (n k : Nat) (L : List St) (s : St) (w : World) (hn : L.length = n) (hL : StAt w w.heap.size A L) (hmax : n < 2 ^ 40) :
  Calls Try.prog 63 #[.slice A n k, s.val] w fun e w' => e = .returned (.int .i64 (idxI L s)) ∧ Below w.heap.size w w' := by
 obtain ⟨mo, la, ne⟩ := s
 unfold St.val
 dsimp only
 have HB := Lib.hid (below_box w #[.int .i64 mo, .int .i64 la, .int .u8 ne] 47)
 have Q := Lib.hid (Blk.new w #[.int .i64 mo, .int .i64 la, .int .u8 ne] 47)
 have HL := Lib.hid (hL.up HB.out)
 have HN := Lib.hid hn
 clear hL hn
 go_enter Try.func63, Try.ntmps63
 go_wp2_with fail
 generalize w.alloc (.cells #[.int .i64 mo, .int .i64 la, .int .u8 ne] 47) = V at *
 obtain ⟨g, hg⟩ : ∃ g, w.heap.size = g := ⟨_, rfl⟩
 rw [hg] at Q HB ⊢
 have HG := Lib.hid hg
 clear hg
 go_loopw [5] (fun x wr => ∃ j : Nat, x = .int .i64 j ∧ j ≤ n ∧ (∀ i, i < j → L[i]? ≠ some ⟨mo, la, ne⟩) ∧ Below V.heap.size V wr) (fun x _ => n - (intOf x).toNat)
 case atStart => exact ⟨0, rfl, Nat.zero_le _, fun i hi => absurd hi (by omega), Below.refl _ _⟩
 case round =>
  obtain ⟨j, rfl, hj, hno, hb⟩ := hrel
  have HNO := Lib.hid hno
  have HBW := Lib.hid hb
  have HBG : Hid (Below g w wr) := HB.out.trans (hb.mono (by have := Q.out.lt; omega))
  clear hno
  by_cases hlt : j < n
  ·
   have hjl : j < L.length := by have := HN.out; omega
   obtain ⟨b, rfl, hB, hc⟩ := HL.out (by omega)
   obtain ⟨c0, c1, c2⟩ := hc j hjl
   have HJ : Hid (L[j]? = some (L[j]'hjl)) := List.getElem?_eq_getElem hjl
   have q0 := (hb.cell (p := ⟨g, 0, none⟩) Q.out.lt).trans (Q.out.cell 0)
   have q1 := (hb.cell (p := ⟨g, 1, none⟩) Q.out.lt).trans (Q.out.cell 1)
   have q2 := (hb.cell (p := ⟨g, 2, none⟩) Q.out.lt).trans (Q.out.cell 2)
   simp only [List.getElem?_toArray, List.getElem?_cons_zero, List.getElem?_cons_succ] at q0 q1 q2
   have d0 := (hb.cell (p := ⟨b, j * 3, none⟩) hB).trans c0
   have d1 := (hb.cell (p := ⟨b, j * 3 + 1, none⟩) hB).trans c1
   have d2 := (hb.cell (p := ⟨b, j * 3 + 2, none⟩) hB).trans c2
   clear hc c0 c1 c2 hb
   generalize L[j]'hjl = t at *
   obtain ⟨ta, tb, tc⟩ := t
   dsimp only at d0 d1 d2
   have hj0 : (0 : Int) ≤ (j : Int) := by omega
   have hjn : (j : Int) < (n : Int) := by omega
   have HLT := Lib.hid hlt
   by_cases h1 : ta = mo
   ·
    subst h1
    by_cases h2 : tb = la
    ·
     subst h2
     by_cases h3 : tc = ne
     ·
      subst h3
      have HE := Lib.hid (idx_at HNO.out HJ.out)
      clear HNO HJ
      go_wp2_with fail
      go_region
      go_wp2_with fail
      go_ret
      exact ⟨by rw [HE.out]; rfl, by first | exact HBG.out.drew | (rw [HG.out]; exact HBG.out.drew)⟩
     ·
      have HS := Lib.hid (no_step HNO.out HJ.out (fun e => h3 (by injection e)))
      clear HNO HJ
      go_wp2_with fail
      go_region
      go_wp2_with fail
      refine ⟨⟨j + 1, by go_num, by have := HLT.out; omega, HS.out, HBW.out.drew⟩, ?_⟩
      have := HLT.out; simp [intOf]; omega
    ·
     have HS := Lib.hid (no_step HNO.out HJ.out (fun e => h2 (by injection e)))
     clear HNO HJ
     go_wp2_with fail
     go_region
     go_wp2_with fail
     refine ⟨⟨j + 1, by go_num, by have := HLT.out; omega, HS.out, HBW.out.drew⟩, ?_⟩
     have := HLT.out; simp [intOf]; omega
   ·
    have HS := Lib.hid (no_step HNO.out HJ.out (fun e => h1 (by injection e)))
    clear HNO HJ
    go_wp2_with fail
    go_region
    go_wp2_with fail
    refine ⟨⟨j + 1, by go_num, by have := HLT.out; omega, HS.out, HBW.out.drew⟩, ?_⟩
    have := HLT.out; simp [intOf]; omega
  ·
   have : j = n := by omega
   subst this
   have HE := Lib.hid (idx_no (by rw [HN.out]; exact HNO.out))
   clear HNO hb
   go_wp2_with fail
   go_ret
   exact ⟨by rw [HE.out]; rfl, by first | exact HBG.out | (rw [HG.out]; exact HBG.out)⟩
end Go.Proofs.Ytpkdlljefkbmpaa

/-! Package automaton: the closure that wakes a state. -/
namespace Go.Proofs.Ytpkdlljefkbmpaa
open Go.RowKit Go.Maps

abbrev Aw := List Bool × List Nat
def wakeL (p : Aw) (k : Nat) : Aw := if p.1.getD k true then p else (p.1.set k true, p.2 ++ [k])
structure AW (M : Nat) (w : World) (al ab wt n : Nat) (p : Aw) (QV : Value) : Prop where
 hal : Blk w al 53 #[.slice (some ⟨ab, 0, none⟩) n n]
 hab : Blk w ab 4 (p.1.map Value.bool).toArray
 hlen : p.1.length = n
 hwt : Blk w wt 43 #[QV]
 hq : w.ownsRow M 3 1 QV p.2.length (p.2.map fun i : Nat => Value.int .i64 i)
 nal : M ≤ al
 nab : M ≤ ab
 nwt : M ≤ wt
 nn : al ≠ wt
def AWE (M : Nat) (w : World) (al ab wt n : Nat) (p : Aw) : Prop := ∃ QV, AW M w al ab wt n p QV
theorem AWE.below {M : Nat} {w w' : World} {al ab wt n : Nat} {p : Aw} (h : AWE M w al ab wt n p) (hb : Below w.heap.size w w') : AWE M w' al ab wt n p := by
 obtain ⟨QV, h1, h2, h3, h4, h5, h6, h7, h8, h9⟩ := h
 exact ⟨QV, h1.keep hb h1.lt, h2.keep hb h2.lt, h3, h4.keep hb h4.lt, own_move h5 (fun b he => by
  obtain ⟨cur, hc⟩ := own_blk h5 he
  exact hb.block b hc.lt), h6, h7, h8, h9⟩
theorem wakeL_yes {p : Aw} {k : Nat} (h : p.1.getD k true = true) : wakeL p k = p := by unfold wakeL; rw [h]; rfl
theorem wakeL_no {p : Aw} {k : Nat} (h : p.1.getD k true = false) : wakeL p k = (p.1.set k true, p.2 ++ [k]) := by unfold wakeL; rw [h]; rfl
end Go.Proofs.Ytpkdlljefkbmpaa

/-! Package automaton: Alive. -/
namespace Go.Proofs.Ytpkdlljefkbmpaa
open Go.RowKit Go.Maps

theorem exp_inv {rs : List Rule} (P : Gr → Prop) (hrow : ∀ i s G, P G → G.1[i]? = some s → P (rowG rs i s rs.length G)) : ∀ f i G, P G → P (expG rs f i G) := by
 intro f
 induction f with
 | zero => intro i G h; exact h
 | succ f ih =>
  intro i G h
  unfold expG
  cases hs : G.1[i]? with
  | none => exact h
  | some s => exact ih _ _ (hrow i s G h hs)
theorem theG_ok {m a : Int} {rs : List Rule} (hG : GoodL m a rs) (hf : ∀ x ∈ rs, x.fits) (hm : 1 ≤ m) : OkG m (theG rs) :=
 exp_inv (OkG m) (fun _ _ _ h hs => row_ok hG hf (h.1 _ (List.mem_of_getElem? hs)) h _) _ _ _ (startG_ok hm)
def LtB (G : Gr) : Prop := ∀ l ∈ G.2, ∀ x ∈ l, x < G.1.length
theorem edge_lt {rs : List Rule} {i r : Nat} {s : St} {G : Gr} (h : LtB G) (hi : i < G.1.length) : LtB (edgeG rs i s r G) := by
 unfold edgeG
 split
 ·
  have hg := insS_grow G.1 (stepS rs s r).1
  have h1 : ∀ l ∈ insB G.1 G.2 (stepS rs s r).1, ∀ x ∈ l, x < G.1.length := by
   unfold insB
   split
   ·
    exact h
   ·
    intro l hl
    rcases List.mem_append.1 hl with g | g
    ·
     exact h l g
    ·
     simp at g; subst g; simp
  intro l hl x hx
  unfold addB at hl
  simp only at hl ⊢
  rcases List.mem_or_eq_of_mem_set hl with g | g
  ·
   have := h1 l g x hx; omega
  ·
   rw [g] at hx
   rcases List.mem_append.1 hx with g2 | g2
   ·
    rw [List.getD_eq_getElem?_getD] at g2
    cases he : (insB G.1 G.2 (stepS rs s r).1)[G.1.idxOf (stepS rs s r).1]? with
    | none => rw [he] at g2; simp at g2
    | some y => rw [he] at g2; have := h1 y (List.mem_of_getElem? he) x g2; omega
   ·
    simp at g2; omega
 ·
  exact h
theorem row_lt {rs : List Rule} {i : Nat} {s : St} {G : Gr} (h : LtB G) (hi : i < G.1.length) : ∀ n, LtB (rowG rs i s n G) := by
 intro n
 induction n with
 | zero => exact h
 | succ n ih => exact edge_lt ih (Nat.lt_of_lt_of_le hi (row_grow G n))
theorem theG_lt (rs : List Rule) : LtB (theG rs) :=
 exp_inv LtB (fun _ _ _ h hs => row_lt h (List.getElem?_eq_some_iff.1 hs).1 _) _ _ _ (fun l hl => by simp [startG] at hl; subst hl; simp)
def accL (a : Int) (L : List St) : Nat → Aw
 | 0 => (List.replicate L.length false, [])
 | j + 1 => match L[j]? with
  | some s => if accB a s then wakeL (accL a L j) j else accL a L j
  | none => accL a L j
def propL (B : List (List Nat)) : Nat → Nat → Aw → Aw
 | 0, _, p => p
 | f + 1, i, p => match p.2[i]? with
  | some k => propL B f (i + 1) ((B.getD k []).foldl wakeL p)
  | none => p
def aliveL (a : Int) (G : Gr) : List Bool := (propL G.2 4000 0 (accL a G.1 G.1.length)).1
def OkA (n : Nat) (p : Aw) : Prop := p.1.length = n ∧ p.2.Nodup ∧ ∀ k ∈ p.2, k < n ∧ p.1.getD k true = true
theorem wake_ok {n k : Nat} {p : Aw} (h : OkA n p) (hk : k < n) : OkA n (wakeL p k) := by
 obtain ⟨h1, h2, h3⟩ := h
 cases hg : p.1.getD k true with
 | true => rw [wakeL_yes hg]; exact ⟨h1, h2, h3⟩
 | false =>
  rw [wakeL_no hg]
  refine ⟨by simpa using h1, ?_, fun i hi => ?_⟩
  ·
   rw [List.nodup_append]
   refine ⟨h2, by simp, fun x hx y hy e => ?_⟩
   simp at hy
   subst hy; subst e
   have := (h3 x hx).2
   rw [hg] at this; cases this
  ·
   rcases List.mem_append.1 hi with g | g
   ·
    obtain ⟨g1, g2⟩ := h3 i g
    refine ⟨g1, ?_⟩
    rw [List.getD_eq_getElem?_getD] at g2 ⊢
    by_cases e : k = i
    ·
     subst e; rw [List.getElem?_set_self (by omega)]; rfl
    ·
     rw [List.getElem?_set_ne e]; exact g2
   ·
    simp at g
    subst g
    refine ⟨hk, ?_⟩
    rw [List.getD_eq_getElem?_getD, List.getElem?_set_self (by omega)]; rfl
theorem OkA.le {n : Nat} {p : Aw} (h : OkA n p) : p.2.length ≤ n := nodup_le n p.2 h.2.1 fun x hx => (h.2.2 x hx).1
theorem fold_ok {n : Nat} : ∀ (l : List Nat) {p : Aw}, OkA n p → (∀ x ∈ l, x < n) → OkA n (l.foldl wakeL p) := by
 intro l
 induction l with
 | nil => intro p h _; exact h
 | cons x l ih => intro p h hl; exact ih (wake_ok h (hl x (by simp))) fun y hy => hl y (by simp [hy])
theorem acc_ok {a : Int} {L : List St} : ∀ j, OkA L.length (accL a L j) := by
 intro j
 induction j with
 | zero => exact ⟨by simp [accL], by simp [accL], by simp [accL]⟩
 | succ j ih =>
  unfold accL
  cases hs : L[j]? with
  | none => exact ih
  | some s =>
   dsimp only
   split
   ·
    exact wake_ok ih (List.getElem?_eq_some_iff.1 hs).1
   ·
    exact ih
theorem info_bool : (Try.prog.info? 4).map (fun i => (i.zero, i.size, i.bytes)) = some (some (.bool false), 1, 1) := by kernel_rfl
theorem make_bool (w : World) (n : Nat) (hn : n < 2 ^ 40) :
  (Instr.makeSlice 53 (.int .i64 n) (.int .i64 n)).run Try.prog w = .ok (.slice (some ⟨w.heap.size, 0, none⟩) n n) (w.alloc (.cells ((List.replicate n false).map Value.bool).toArray 4)) := by
 obtain ⟨i0, hi, hz0, hz1, hz2⟩ := info_parts info_bool
 have := run_make (P := Try.prog) w 53 4 i0 (.bool false) Try.underlying53 hi hz0 .i64 .i64 n n (by omega) (by omega) (by rw [hz2]; omega) (by omega)
 rw [this, hz1]
 have e : ((List.replicate n false).map Value.bool).toArray = madeCells #[.bool false] n := by
  apply Array.ext'
  rw [toList_madeCells_one]
  simp
 rw [e]
 simp [Value.cells]
theorem own_cells {w : World} {base n k : Nat} {e : TypeId} {A : Option Addr} {xs : List Value} (h : w.ownsRow base e 1 (.slice A n k) n xs) {j : Nat} {x : Value} (hx : xs[j]? = some x) : ∃ b, A = some ⟨b, 0, none⟩ ∧ b < w.heap.size ∧ w.cell? ⟨b, j, none⟩ = some x := by
 obtain ⟨hl, hf⟩ := id h
 have hj : j < xs.length := (List.getElem?_eq_some_iff.1 hx).1
 rcases hf with ⟨_, h0⟩ | ⟨g, cap, cur, e1, _, hblk, _⟩
 ·
  omega
 ·
  injection e1 with e2 e3 e4
  subst e2 e4
  exact ⟨g, rfl, Blk.lt hblk, by rw [h.cellAt j (by omega), hx]⟩
end Go.Proofs.Ytpkdlljefkbmpaa

/-! The states of a table: they begin with the first one, are closed under steps, each is reached from an earlier one. -/
namespace Go.Proofs.Ytpkdlljefkbmpaa
open Go.RowKit Go.Maps
theorem insS_more (L : List St) (u : St) : ∃ M, insS L u = L ++ M := by
 unfold insS; split
 ·
  exact ⟨[], by simp⟩
 ·
  exact ⟨[u], rfl⟩
theorem edge_more (rs : List Rule) (i : Nat) (s : St) (r : Nat) (G : Gr) : ∃ M, (edgeG rs i s r G).1 = G.1 ++ M := by
 unfold edgeG; split
 ·
  exact insS_more _ _
 ·
  exact ⟨[], by simp⟩
theorem row_more (rs : List Rule) (i : Nat) (s : St) (G : Gr) : ∀ n, ∃ M, (rowG rs i s n G).1 = G.1 ++ M := by
 intro n
 induction n with
 | zero => exact ⟨[], by simp [rowG]⟩
 | succ n ih =>
  obtain ⟨M, h⟩ := ih
  obtain ⟨M2, h2⟩ := edge_more rs i s n (rowG rs i s n G)
  exact ⟨M ++ M2, by unfold rowG; rw [h2, h, List.append_assoc]⟩
theorem more_at {L L' : List St} (h : ∃ M, L' = L ++ M) {j : Nat} {s : St} (hj : L[j]? = some s) : L'[j]? = some s := by
 obtain ⟨M, rfl⟩ := h
 rw [List.getElem?_append_left (List.getElem?_eq_some_iff.1 hj).1]; exact hj
theorem at_more {L L' : List St} (h : ∃ M, L' = L ++ M) {j : Nat} {s : St} (hl : j < L.length) (hj : L'[j]? = some s) : L[j]? = some s := by
 obtain ⟨M, rfl⟩ := h
 rwa [List.getElem?_append_left hl] at hj
def Reach (rs : List Rule) (L : List St) : Prop := ∀ (x : Nat) (s : St), L[x]? = some s → x = 0 ∨ ∃ (j k : Nat) (t : St), j < x ∧ k < rs.length ∧ L[j]? = some t ∧ stepS rs t k = (s, true)
theorem theG_first (rs : List Rule) : (theG rs).1[0]? = some St.start :=
 exp_inv (fun G => G.1[0]? = some St.start) (fun i s G h _ => more_at (row_more rs i s G _) h) _ _ _ rfl
def Clo (rs : List Rule) (L : List St) (i : Nat) : Prop := ∀ (j : Nat) (t : St), j < i → L[j]? = some t → ∀ k, k < rs.length → (stepS rs t k).2 = true → (stepS rs t k).1 ∈ L
theorem mem_more {L L' : List St} (h : ∃ M, L' = L ++ M) {s : St} (hs : s ∈ L) : s ∈ L' := by
 obtain ⟨M, rfl⟩ := h
 exact List.mem_append.2 (.inl hs)
theorem edge_mem {rs : List Rule} {i r : Nat} {s : St} {G : Gr} (hs : G.1[i]? = some s) (h2 : (stepS rs s r).2 = true) : (stepS rs s r).1 ∈ (edgeG rs i s r G).1 := by
 unfold edgeG
 split
 ·
  exact mem_insS.2 (.inr rfl)
 ·
  rename_i hc
  have : (stepS rs s r).1 = s := Classical.byContradiction fun e => hc ⟨h2, e⟩
  rw [this]; exact List.mem_of_getElem? hs
theorem row_mem {rs : List Rule} {i : Nat} {s : St} {G : Gr} (hs : G.1[i]? = some s) : ∀ n k : Nat, k < n → (stepS rs s k).2 = true → (stepS rs s k).1 ∈ (rowG rs i s n G).1 := by
 intro n
 induction n with
 | zero => intro k hk; omega
 | succ n ih =>
  intro k hk h2
  rcases Nat.lt_or_ge k n with g | g
  ·
   exact mem_more (edge_more rs i s n _) (ih k g h2)
  ·
   obtain rfl : k = n := by omega
   exact edge_mem (more_at (row_more rs i s G k) hs) h2
theorem row_clo {rs : List Rule} {i : Nat} {s : St} {G : Gr} (h : Clo rs G.1 i) (hs : G.1[i]? = some s) : Clo rs (rowG rs i s rs.length G).1 (i + 1) := by
 intro j t hj ht k hk h2
 have hm := row_more rs i s G rs.length
 have hil := (List.getElem?_eq_some_iff.1 hs).1
 have ht' := at_more hm (show j < G.1.length by omega) ht
 rcases Nat.lt_or_ge j i with g | g
 ·
  exact mem_more hm (h j t g ht' k hk h2)
 ·
  obtain rfl : j = i := by omega
  rw [hs] at ht'
  cases ht'
  exact row_mem hs _ k hk h2
theorem exp_clo {rs : List Rule} : ∀ f i G, Clo rs G.1 i → (expG rs f i G).1.length < i + f → Clo rs (expG rs f i G).1 (expG rs f i G).1.length := by
 intro f
 induction f with
 | zero =>
  intro i G h hl j t hj
  have : expG rs 0 i G = G := rfl
  rw [this] at hl hj ⊢
  exact h j t (by omega)
 | succ f ih =>
  intro i G h hl
  unfold expG at hl ⊢
  cases hs : G.1[i]? with
  | none =>
   rw [hs] at hl
   dsimp only at hl ⊢
   intro j t hj
   have : G.1.length ≤ i := by
    rcases Nat.lt_or_ge i G.1.length with g | g
    ·
     rw [List.getElem?_eq_getElem g] at hs; cases hs
    ·
     exact g
   exact h j t (by omega)
  | some s =>
   rw [hs] at hl
   dsimp only at hl ⊢
   exact ih _ _ (row_clo h hs) (by omega)
theorem theG_clo {m a : Int} {rs : List Rule} (hG : GoodL m a rs) (hf : ∀ x ∈ rs, x.fits) (hm : 1 ≤ m ∧ m ≤ 8) : Clo rs (theG rs).1 (theG rs).1.length :=
 exp_clo 4000 0 startG (fun j t hj => by omega) (by have := (theG_ok hG hf hm.1).le ⟨by omega, hm.2⟩; unfold theG at this; omega)
theorem nodup_idx {L : List St} (h : L.Nodup) {i : Nat} {s : St} (hi : L[i]? = some s) : idxI L s = i := by
 refine idx_at (fun j hj e => ?_) hi
 obtain ⟨h1, e1⟩ := List.getElem?_eq_some_iff.1 hi
 obtain ⟨h2, e2⟩ := List.getElem?_eq_some_iff.1 e
 have := (List.getElem_inj (h₀ := h2) (h₁ := h1) h).1 (e2.trans e1.symm)
 omega
theorem idx_mem {L : List St} {s : St} (h : s ∈ L) : ∃ j : Nat, idxI L s = j ∧ L[j]? = some s := by
 unfold idxI
 rw [if_pos h]
 refine ⟨L.idxOf s, rfl, ?_⟩
 have hl := List.idxOf_lt_length_of_mem h
 rw [List.getElem?_eq_getElem hl, List.getElem_idxOf]
end Go.Proofs.Ytpkdlljefkbmpaa
