/- Merged by program: Pw1 Pw2 Pw3 Pw4 Wk0 Wk1 -/
import Derived.Test.YtpkdlljefkbmpaaQ19
import Derived.Deep.RegionHeld3

/-! Paths, purely: a list of rules that apply one after the other. -/
namespace Go.Proofs.Ytpkdlljefkbmpaa
open Go.RowKit Go.Maps
def stepsL (rs : List Rule) : St → List Int → Option St
 | s, [] => some s
 | s, k :: r => if (stepS rs s k).2 = true then stepsL rs (stepS rs s k).1 r else none
theorem steps_app (rs : List Rule) : ∀ (ks ls : List Int) (s : St), stepsL rs s (ks ++ ls) = (stepsL rs s ks).bind fun t => stepsL rs t ls := by
 intro ks
 induction ks with
 | nil => intro ls s; rfl
 | cons k r ih =>
  intro ls s
  show (if (stepS rs s k).2 = true then stepsL rs (stepS rs s k).1 (r ++ ls) else none) = (if (stepS rs s k).2 = true then stepsL rs (stepS rs s k).1 r else none).bind fun t => stepsL rs t ls
  split
  ·
   exact ih ls _
  ·
   rfl
theorem runGo_all {rs : List Rule} : ∀ (ks : List Int) (t : R0) (u : St), stepsL rs t.st ks = some u →
  runGo rs ks t = ⟨t.p ++ ks.flatMap fun k => (bytes (ruleOf rs k).p).map fun b : Nat => (b : Int), t.c ++ ks.flatMap fun k => (ruleOf rs k).c, t.n + ks.length, u⟩ := by
 intro ks
 induction ks with
 | nil =>
  intro t u h
  have e : t.st = u := Option.some.inj h
  cases t
  simp [runGo, ← e]
 | cons k r ih =>
  intro t u h
  unfold stepsL at h
  split at h
  ·
   rename_i h2
   unfold runGo
   rw [if_pos h2, ih (t.add (ruleOf rs k) (stepS rs t.st k).1) u h]
   simp only [R0.add, List.flatMap_cons, List.append_assoc, List.length_cons]
   congr 1
   omega
  ·
   cases h
theorem runGo_short {rs : List Rule} : ∀ (ks : List Int) (t : R0), stepsL rs t.st ks = none → (runGo rs ks t).n < t.n + ks.length := by
 intro ks
 induction ks with
 | nil => intro t h; cases h
 | cons k r ih =>
  intro t h
  unfold stepsL at h
  unfold runGo
  split at h
  ·
   rename_i h2
   rw [if_pos h2]
   have h3 := ih (t.add (ruleOf rs k) (stepS rs t.st k).1) h
   have h4 : (t.add (ruleOf rs k) (stepS rs t.st k).1).n = t.n + 1 := rfl
   rw [h4] at h3
   simp only [List.length_cons]
   omega
  ·
   rename_i h2
   rw [if_neg h2]
   simp
theorem runOk_iff {a : Int} {rs : List Rule} {ks : List Int} : runOk a rs ks = true ↔ ∃ u, stepsL rs St.start ks = some u ∧ accB a u = true := by
 unfold runOk runT
 cases h : stepsL rs St.start ks with
 | some u =>
  rw [runGo_all ks ⟨[], [], 0, St.start⟩ u h]
  simp
 | none =>
  have := runGo_short ks ⟨[], [], 0, St.start⟩ h
  have hn : ¬ (runGo rs ks ⟨[], [], 0, St.start⟩).n = ks.length := by
   have e : (⟨[], [], 0, St.start⟩ : R0).n = 0 := rfl
   rw [e] at this
   omega
  simp [hn]
theorem steps_num {rs : List Rule} : ∀ (ks : List Int) (s u : St), stepsL rs s ks = some u → ∀ k ∈ ks, 0 ≤ k ∧ k < (rs.length : Int) := by
 intro ks
 induction ks with
 | nil => intro s u _ k hk; cases hk
 | cons x r ih =>
  intro s u h k hk
  unfold stepsL at h
  split at h
  ·
   rename_i h2
   rcases List.mem_cons.1 hk with e | g
   ·
    obtain ⟨j, e2, hj, _⟩ := step_at h2
    rw [e, e2]
    omega
   ·
    exact ih _ u h k g
  ·
   cases h
end Go.Proofs.Ytpkdlljefkbmpaa

/-! Paths, purely: what a list is in which the contexts fit; blanks and spaces; a further rule. -/
namespace Go.Proofs.Ytpkdlljefkbmpaa
open Go.RowKit Go.Maps
theorem bit_and (u v : Int) (j : Int) (h1 : 0 ≤ u) (h2 : u < 64) (h3 : 0 ≤ v) (h4 : v < 64) (h5 : 0 ≤ j) (h6 : j ≤ 5) : bitB (bits .and .u8 u v) j = (bitB u j && bitB v j) := by
 have h := allB2_out (n := 64) (m := 64) (p := fun a b => (List.range 6).all fun j => bitB (bits .and .u8 (a : Int) (b : Int)) (j : Int) == (bitB (a : Int) (j : Int) && bitB (b : Int) (j : Int))) (by decide +kernel) u.toNat v.toNat (by omega) (by omega)
 have h := List.all_eq_true.1 h j.toNat (List.mem_range.2 (by omega))
 rw [show ((u.toNat : Nat) : Int) = u from by omega, show ((v.toNat : Nat) : Int) = v from by omega, show ((j.toNat : Nat) : Int) = j from by omega] at h
 exact eq_of_beq h
theorem bit_zero (j : Int) : bitB 0 j = false := by
 unfold bitB
 have : (0 : Int) / 2 ^ j.toNat % 2 = 0 := by simp
 rw [this]; simp
theorem bit_63 (j : Int) (h5 : 0 ≤ j) (h6 : j ≤ 5) : bitB 63 j = true := by
 have : j = 0 ∨ j = 1 ∨ j = 2 ∨ j = 3 ∨ j = 4 ∨ j = 5 := by omega
 rcases this with rfl | rfl | rfl | rfl | rfl | rfl <;> decide
def prtL (rs : List Rule) (ks : List Int) : List Nat := ks.flatMap fun k => bytes (ruleOf rs k).p
def fcl (l : List Nat) : Int := match l with | [] => 0 | b :: _ => clsI b
def lcl (l : List Nat) : Int := match l.getLast? with | none => 0 | some b => clsI b
theorem fcl_bd (l : List Nat) : 0 ≤ fcl l ∧ fcl l ≤ 5 := by
 cases l with
 | nil => exact ⟨by decide, by decide⟩
 | cons b r => exact cls_bd b
theorem lcl_app (l m : List Nat) : lcl (l ++ m) = if m = [] then lcl l else lcl m := by
 by_cases h : m = []
 ·
  subst h; simp
 ·
  rw [if_neg h]; unfold lcl
  rw [List.getLast?_append]
  cases hm : m.getLast? with
  | none => exact absurd (List.getLast?_eq_none_iff.1 hm) h
  | some b => rfl
theorem bytes_zero {p : ByteArray} : p.size = 0 ↔ bytes p = [] := by
 constructor
 ·
  intro h; exact List.eq_nil_of_length_eq_zero (by rw [bytes_len]; exact h)
 ·
  intro h; rw [← bytes_len, h]; rfl
theorem byte_first {p : ByteArray} (h : p.size ≠ 0) : clsI (byteI p 0) = fcl (bytes p) := by
 unfold byteI fcl
 cases hb : bytes p with
 | nil => exact absurd (bytes_zero.2 hb) h
 | cons b r => rfl
theorem byte_last {p : ByteArray} (h : p.size ≠ 0) : clsI (byteI p (p.size - 1)) = lcl (bytes p) := by
 unfold byteI lcl
 have hne : bytes p ≠ [] := fun e => h (bytes_zero.2 e)
 rw [List.getLast?_eq_some_getLast hne, List.getLast_eq_getElem, List.getD_eq_getElem?_getD]
 have hl : p.size - 1 < (bytes p).length := by rw [bytes_len]; omega
 rw [List.getElem?_eq_getElem hl]
 simp only [Option.getD_some, bytes_len]
theorem fcl_app (l m : List Nat) : fcl (l ++ m) = if l = [] then fcl m else fcl l := by
 cases l with
 | nil => simp
 | cons b r => rfl
theorem masks {m a : Int} {rs : List Rule} (hG : GoodL m a rs) (hf : ∀ x ∈ rs, x.fits) {x : Rule} (hx : x ∈ rs) : (0 ≤ x.l ∧ x.l < 64) ∧ (0 ≤ x.r ∧ x.r < 64) ∧ (0 ≤ x.t ∧ x.t < m) := by
 have h1 := hG.2.2 x hx
 obtain ⟨f1, f2, f3, f4, f5, f6, f7⟩ := hf x hx
 unfold soundB maskB modeB at h1
 simp only [Bool.and_eq_true, decide_eq_true_eq] at h1
 obtain ⟨⟨⟨⟨_, s5⟩, s6⟩, s7⟩, s8⟩ := h1
 exact ⟨by omega, by omega, by omega⟩
end Go.Proofs.Ytpkdlljefkbmpaa

/-! Paths, purely: what a path prints and writes; with a further rule it remains, and no state is lost. -/
namespace Go.Proofs.Ytpkdlljefkbmpaa
open Go.RowKit Go.Maps
theorem num_rule {rs : List Rule} {k : Int} (h : 0 ≤ k ∧ k < (rs.length : Int)) : ruleOf rs k ∈ rs := by
 unfold ruleOf
 rw [List.getD_eq_getElem?_getD, List.getElem?_eq_getElem (show k.toNat < rs.length by omega), Option.getD_some]
 exact List.getElem_mem _
theorem bytes_strOf {l : List Nat} (h : ∀ b ∈ l, b < 256) : bytes (strOf (l.map fun b : Nat => (b : Int))) = l := by
 unfold bytes strOf
 show ((l.map _).map _).map UInt8.toNat = l
 rw [List.map_map, List.map_map]
 conv => rhs; rw [← List.map_id l]
 refine List.map_congr_left fun b hb => ?_
 show (UInt8.ofNat ((b : Int)).toNat).toNat = b
 have := h b hb
 rw [Int.toNat_natCast]
 simp only [UInt8.toNat_ofNat']
 omega
theorem prt_bd {rs : List Rule} {ks : List Int} : ∀ b ∈ prtL rs ks, b < 256 := by
 intro b hb
 unfold prtL at hb
 obtain ⟨k, _, h⟩ := List.mem_flatMap.1 hb
 exact bytes_lt _ _ h
theorem ok_run {a : Int} {rs : List Rule} {ks : List Int} (h : runOk a rs ks = true) : (runT rs ks).p = (prtL rs ks).map (fun b : Nat => (b : Int)) ∧ (runT rs ks).c = ks.flatMap (fun k => (ruleOf rs k).c) ∧ (∀ k ∈ ks, 0 ≤ k ∧ k < (rs.length : Int)) ∧ (runT rs ks).n = ks.length := by
 obtain ⟨u, h1, h2⟩ := runOk_iff.1 h
 have hn := steps_num ks _ u h1
 unfold runT
 rw [runGo_all ks ⟨[], [], 0, St.start⟩ u h1]
 refine ⟨?_, by simp, hn, by simp⟩
 unfold prtL
 rw [List.map_flatMap, List.nil_append]
theorem sub_len {α : Type} [DecidableEq α] : ∀ (L M : List α), L.Nodup → (∀ x ∈ L, x ∈ M) → L.length ≤ M.length := by
 intro L
 induction L with
 | nil => intro M _ _; exact Nat.zero_le _
 | cons a r ih =>
  intro M hd hs
  rw [List.nodup_cons] at hd
  have ha := hs a (List.mem_cons.2 (.inl rfl))
  have := ih (M.erase a) hd.2 fun x hx => (List.mem_erase_of_ne (fun e => hd.1 (by rw [← e]; exact hx))).2 (hs x (List.mem_cons.2 (.inr hx)))
  rw [List.length_erase_of_mem ha] at this
  have hp : 0 < M.length := List.length_pos_of_mem ha
  simp only [List.length_cons]
  omega
end Go.Proofs.Ytpkdlljefkbmpaa

/-! Paths, purely: how long what they print and write may be. -/
namespace Go.Proofs.Ytpkdlljefkbmpaa
open Go.RowKit Go.Maps
theorem sum_sizes {m a : Int} {rs : List Rule} (hG : GoodL m a rs) : ∀ (ks : List Int), (∀ k ∈ ks, 0 ≤ k ∧ k < (rs.length : Int)) → (prtL rs ks).length ≤ 4 * ks.length ∧ (ks.flatMap fun k => (ruleOf rs k).c).length ≤ 4 * ks.length := by
 intro ks
 induction ks with
 | nil => intro _; exact ⟨Nat.zero_le _, Nat.zero_le _⟩
 | cons k r ih =>
  intro hk
  obtain ⟨i1, i2⟩ := ih fun j hj => hk j (List.mem_cons.2 (.inr hj))
  obtain ⟨z1, z2, z3⟩ := sound_sizes hG (num_rule (hk k (List.mem_cons.2 (.inl rfl))))
  have hp : prtL rs (k :: r) = bytes (ruleOf rs k).p ++ prtL rs r := by unfold prtL; rw [List.flatMap_cons]
  rw [hp, List.flatMap_cons, List.length_append, List.length_append, bytes_len, List.length_cons]
  omega
theorem ok_sizes {m a : Int} {rs : List Rule} (hG : GoodL m a rs) {ks : List Int} (h : runOk a rs ks = true) : (prtL rs ks).length ≤ 4 * ks.length ∧ (runT rs ks).c.length ≤ 4 * ks.length := by
 obtain ⟨h1, h2, h3, _⟩ := ok_run h
 rw [h2]
 exact sum_sizes hG ks h3
end Go.Proofs.Ytpkdlljefkbmpaa

/-! The reference's Walk, what it keeps. -/
namespace Go.Proofs.Ytpkdlljefkbmpaa
open Go.RowKit Go.Maps
def WalkEnd (a : Int) (rs : List Rule) (w : World) (e : Ending) (w' : World) : Prop :=
 Below w.heap.size w w' ∧ ∃ A k ks, w'.ownsRow w.heap.size 3 1 (.slice A ks.length k) ks.length (ks.map (Value.int .i64)) ∧
  ((e = .returned (.tuple #[.slice A ks.length k, .bool false]) ∧ ks = [] ∧ ¬ Alv a rs St.start) ∨ (e = .returned (.tuple #[.slice A ks.length k, .bool true]) ∧ runOk a rs ks = true ∧ ks.length ≤ 4000))
theorem keepW {V w' w'' : World} {q : Nat} {v0 v1 v2 : Value} (hb : Below w'.heap.size w' w'') (H : Below V.heap.size V w' ∧ w'.cell? ⟨q, 0, none⟩ = some v0 ∧ w'.cell? ⟨q, 1, none⟩ = some v1 ∧ w'.cell? ⟨q, 2, none⟩ = some v2) :
  Below V.heap.size V w'' ∧ w''.cell? ⟨q, 0, none⟩ = some v0 ∧ w''.cell? ⟨q, 1, none⟩ = some v1 ∧ w''.cell? ⟨q, 2, none⟩ = some v2 := by
 obtain ⟨h0, a0, a1, a2⟩ := H
 have key : ∀ b i v, w'.cell? ⟨b, i, none⟩ = some v → w''.cell? ⟨b, i, none⟩ = some v := fun b i v h => (hb.cell (p := ⟨b, i, none⟩) (World.block_lt_of_cell? w' ⟨b, i, none⟩ h)).trans h
 exact ⟨h0.trans (hb.mono h0.size), key _ _ _ a0, key _ _ _ a1, key _ _ _ a2⟩
theorem walk_states3 {m a : Int} {A : Option Addr} {n k q : Nat} {rs : List Rule} {V : World} (hT : TB q m a A n k rs V) (hn : rs.length = n) (hG : GoodL m a rs) (hmax : n ≤ 64) (hm : 1 ≤ m ∧ m ≤ 8) {P : Prop} (W : World) (hW : Below V.heap.size V W ∧ P) :
  Calls Try.prog 60 #[.agg #[.int .i64 m, .int .u8 a, .slice A n k]] W (StEnd rs W) := rStates_any m a A n k rs W hn (hT.next hW.1).r hG hmax hm
theorem walk_alive3 {m a : Int} {A : Option Addr} {n k q : Nat} {rs : List Rule} {V : World} (hT : TB q m a A n k rs V) (hn : rs.length = n) (hG : GoodL m a rs) (hmax : n ≤ 64) (hm : 1 ≤ m ∧ m ≤ 8) (ha : 0 ≤ a ∧ a < 256) {P : Prop} (W : World) (hW : Below V.heap.size V W ∧ P) :
  Calls Try.prog 28 #[.agg #[.int .i64 m, .int .u8 a, .slice A n k]] W (RAlEnd a rs W) := rAlive_any m a A n k rs W hn (hT.next hW.1).r hG hmax hm ha
theorem walk_home3 {m a : Int} {A : Option Addr} {n k q : Nat} {rs : List Rule} {V : World} (hT : TB q m a A n k rs V) (hn : rs.length = n) (hG : GoodL m a rs) (hmax : n ≤ 64) (hm : 1 ≤ m ∧ m ≤ 8) (ha : 0 ≤ a ∧ a < 256) {P : Prop} (W : World) (hW : Below V.heap.size V W ∧ P) :
  Calls Try.prog 61 #[.agg #[.int .i64 m, .int .u8 a, .slice A n k]] W (HomeEnd a rs W) := home_any m a A n k rs W hn (hT.next hW.1).r hG hmax hm ha
structure WS (q : Nat) (m a : Int) (A : Option Addr) (n k : Nat) (rs : List Rule) (b bb kb ko : Nat) (LL : List St) (AL : List Bool) (K : List Int) (W : World) : Prop where
 t : TB q m a A n k rs W
 c : StAt W W.heap.size (some ⟨b, 0, none⟩) LL
 v : BoolAt W W.heap.size (some ⟨bb, 0, none⟩) AL
 h : SeqN W W.heap.size (some ⟨kb, ko, none⟩) K
theorem WS.next {W W' : World} {q : Nat} {m a : Int} {A : Option Addr} {n k : Nat} {rs : List Rule} {b bb kb ko : Nat} {LL : List St} {AL : List Bool} {K : List Int} (h : WS q m a A n k rs b bb kb ko LL AL K W) (hb : Below W.heap.size W W') : WS q m a A n k rs b bb kb ko LL AL K W' :=
 ⟨h.t.next hb, (h.c.keep hb).more hb.size, (h.v.keep hb).more hb.size, h.h.up hb⟩
structure WM (h sc : Nat) (w1 : World) (v9 : Value) (ks : List Int) (s : St) (W : World) : Prop where
 own : W.ownsRow h 3 1 v9 ks.length (ks.map (Value.int .i64))
 blk : Blk W sc 47 #[.int .i64 s.mode, .int .i64 s.last, .int .u8 s.need]
 low : h ≤ sc
 b : Below h w1 W
theorem WM.size {h sc : Nat} {w1 : World} {v9 : Value} {ks : List Int} {s : St} {W : World} (H : WM h sc w1 v9 ks s W) : h < W.heap.size := Nat.lt_of_le_of_lt H.low H.blk.lt
theorem WM.next {h sc : Nat} {w1 : World} {v9 : Value} {ks : List Int} {s : St} {W W' : World} (H : WM h sc w1 v9 ks s W) (hb : Below W.heap.size W W') : WM h sc w1 v9 ks s W' :=
 ⟨own_keep H.own hb, H.blk.keep hb H.blk.lt, H.low, H.b.trans (hb.mono (Nat.le_of_lt H.size))⟩
theorem WM.grow {h sc : Nat} {w1 : World} {v9 v : Value} {ks : List Int} {s : St} {k : Int} {W W' : World} (H : WM h sc w1 v9 ks s W) (hg : W.grownBy W' v9.ownBlock) (ho : W'.ownsRow h 3 1 v (ks.length + 1) (ks.map (Value.int .i64) ++ [.int .i64 k])) : WM h sc w1 v (ks ++ [k]) s W' := by
 refine ⟨?_, Blk.row H.own hg H.blk (by decide), H.low, H.b.grown hg (Nat.le_of_lt H.size) (fun g hg' => (H.own.lt g hg').1)⟩
 rw [List.length_append, List.map_append]
 exact ho
theorem WM.put {h sc : Nat} {w1 : World} {v9 : Value} {ks : List Int} {s t : St} {W : World} (H : WM h sc w1 v9 ks s W) : WM h sc w1 v9 ks t (((W.setCell ⟨sc, 0, none⟩ (.int .i64 t.mode)).setCell ⟨sc, 1, none⟩ (.int .i64 t.last)).setCell ⟨sc, 2, none⟩ (.int .u8 t.need)) := by
 have key : ∀ b, b ≠ sc → (((W.setCell ⟨sc, 0, none⟩ (.int .i64 t.mode)).setCell ⟨sc, 1, none⟩ (.int .i64 t.last)).setCell ⟨sc, 2, none⟩ (.int .u8 t.need)).heap[b]? = W.heap[b]? := fun b hb =>
  ((Below.heap_setCell _ ⟨sc, 2, none⟩ _ b hb).trans (Below.heap_setCell _ ⟨sc, 1, none⟩ _ b hb)).trans (Below.heap_setCell _ ⟨sc, 0, none⟩ _ b hb)
 have hs1 := ((H.blk.set 0 (.int .i64 t.mode)).set 1 (.int .i64 t.last)).set 2 (.int .u8 t.need)
 refine ⟨own_move H.own fun b hb => key b fun e => own_ne3 H.own H.blk (by decide) (by rw [hb, e]), hs1, H.low, ((H.b.setCell H.low _).setCell H.low _).setCell H.low _⟩
structure WP (a : Int) (rs : List Rule) (LL : List St) (ks : List Int) (s : St) : Prop where
 st : stepsL rs St.start ks = some s
 al : Alv a rs s
 mem : s ∈ LL
theorem WP.step {a : Int} {rs : List Rule} {LL : List St} {ks : List Int} {s t : St} {k : Int} (H : WP a rs LL ks s) (h2 : stepS rs s k = (t, true)) (ha : Alv a rs t) (hm : t ∈ LL) : WP a rs LL (ks ++ [k]) t := by
 refine ⟨?_, ha, hm⟩
 rw [steps_app, H.st]
 show (if (stepS rs s k).2 = true then stepsL rs (stepS rs s k).1 [] else none) = _
 rw [h2]; rfl
theorem WP.done {a : Int} {rs : List Rule} {LL : List St} {ks : List Int} {s : St} (H : WP a rs LL ks s) (ha : accB a s = true) : runOk a rs ks = true := runOk_iff.2 ⟨s, H.st, ha⟩
theorem own_base {w : World} {base base' size n : Nat} {e : TypeId} {v : Value} {xs : List Value} (h : w.ownsRow base e size v n xs) (hb : base' ≤ base) : w.ownsRow base' e size v n xs := by
 obtain ⟨hl, hf⟩ := id h
 refine ⟨hl, ?_⟩
 rcases hf with h0 | ⟨g, cap, cur, rfl, hg, hr⟩
 ·
  exact .inl h0
 ·
  exact .inr ⟨g, cap, cur, rfl, Nat.le_trans hb hg, hr⟩
def FitL (a : Int) (rs : List Rule) (LL : List St) (s : St) (F : List Int) : Prop := ∀ f ∈ F, 0 ≤ f ∧ f < (rs.length : Int) ∧ (stepS rs s f).2 = true ∧ Alv a rs (stepS rs s f).1 ∧ (stepS rs s f).1 ∈ LL
theorem FitL.nil {a : Int} {rs : List Rule} {LL : List St} {s : St} : FitL a rs LL s [] := fun _ h => by cases h
theorem FitL.add {a : Int} {rs : List Rule} {LL : List St} {s t : St} {F : List Int} {k : Nat} (h : FitL a rs LL s F) (hk : k < rs.length) (he : stepS rs s k = (t, true)) (ha : Alv a rs t) (hm : t ∈ LL) : FitL a rs LL s (F ++ [(k : Int)]) := fun f hf => by
 rcases List.mem_append.1 hf with g | g
 ·
  exact h f g
 ·
  obtain rfl : f = (k : Int) := by simpa using g
  rw [he]
  exact ⟨by omega, by omega, rfl, ha, hm⟩
def rkN (n : Nat) (rank : Nat → Nat) (i : Nat) : Nat := ((List.range n).filter fun j => decide (rank j < rank i)).length
theorem rk_le (n : Nat) (rank : Nat → Nat) (i : Nat) : rkN n rank i ≤ n := by
 unfold rkN
 have := List.length_filter_le (fun j => decide (rank j < rank i)) (List.range n)
 simpa using this
theorem rk_lt {n : Nat} {rank : Nat → Nat} {i j : Nat} (hj : j < n) (h : rank j < rank i) : rkN n rank j < rkN n rank i := by
 have hd : ((List.range n).filter fun x => decide (rank x < rank j)).Nodup := List.nodup_range.sublist List.filter_sublist
 have := sub_len (j :: (List.range n).filter fun x => decide (rank x < rank j)) ((List.range n).filter fun x => decide (rank x < rank i)) (by
  rw [List.nodup_cons]
  refine ⟨fun h => ?_, hd⟩
  rw [List.mem_filter] at h
  have := of_decide_eq_true h.2
  omega) (fun x hx => by
  rw [List.mem_filter]
  rcases List.mem_cons.1 hx with e | g
  ·
   subst e; exact ⟨List.mem_range.2 hj, decide_eq_true h⟩
  ·
   rw [List.mem_filter] at g
   exact ⟨g.1, decide_eq_true (by have := of_decide_eq_true g.2; omega)⟩)
 rw [List.length_cons] at this
 unfold rkN
 omega
theorem HomeS.rk {a : Int} {rs : List Rule} {L : List St} {K : List Int} {rank : Nat → Nat} (h : HomeS a rs L K rank) : HomeS a rs L K (rkN L.length rank) := by
 refine ⟨h.1, fun i s hi hv => ?_⟩
 rcases h.2 i s hi hv with e | ⟨k, j, h1, h2, h3, h4⟩
 ·
  exact .inl e
 ·
  exact .inr ⟨k, j, h1, h2, rk_lt (List.getElem?_eq_some_iff.1 h2.2.2).1 h3, h4⟩
end Go.Proofs.Ytpkdlljefkbmpaa

/-! The reference's Walk: a path that is chosen by numbers. -/
namespace Go.Proofs.Ytpkdlljefkbmpaa
open Go.RowKit Go.Maps
set_option maxRecDepth 10000 in
set_option maxHeartbeats 4000000 in
theorem walk_any (m a : Int) (A : Option Addr) (n k : Nat) (rs : List Rule) (w : World) (hn : rs.length = n) (hR : Rules w w.heap.size A rs) (hG : GoodL m a rs) (hmax : n ≤ 64) (hm : 1 ≤ m ∧ m ≤ 8) (ha : 0 ≤ a ∧ a < 256) (XA : Option Addr) (xn xk : Nat) (xs : List Int) (hx : xs.length = xn) (hX : Seq w w.heap.size XA xs) (hxs : ∀ z ∈ xs, 0 ≤ z ∧ z < 256) :
  Calls Try.prog 26 #[.agg #[.int .i64 m, .int .u8 a, .slice A n k], .slice XA xn xk] w (WalkEnd a rs w) := by
 have HB := Lib.hid (below_box w #[.int .i64 m, .int .u8 a, .slice A n k] 30)
 have HT := Lib.hid (Blk.new w #[.int .i64 m, .int .u8 a, .slice A n k] 30)
 have HR := Lib.hid (hR.up HB.out)
 have HFT := Lib.hid hR.fit
 have HG := Lib.hid hG
 subst hx
 have HX := Lib.hid hX
 clear hR hG hX
 go_enter Try.func26, Try.ntmps26
 go_upto_region 1 with fail
 generalize w.alloc (.cells #[.int .i64 m, .int .u8 a, .slice A n k] 30) = V at *
 obtain ⟨q, hq⟩ : ∃ q, w.heap.size = q := ⟨_, rfl⟩
 rw [hq] at HT
 simp only [hq]
 have HQ := Lib.hid hq
 clear hq
 have HTB : Hid (TB q m a A n k rs V) := ⟨HT.out, HR.out⟩
 have hS : Below V.heap.size V V.drew ∧ V.drew.cell? ⟨q, 0, none⟩ = some (.int .i64 m) ∧ V.drew.cell? ⟨q, 1, none⟩ = some (.int .u8 a) ∧ V.drew.cell? ⟨q, 2, none⟩ = some (.slice A n k) := ⟨(Below.refl _ _).drew, HT.out.cell 0, HT.out.cell 1, HT.out.cell 2⟩
 go_region_held3 (fun w' => Below V.heap.size V w' ∧ w'.cell? ⟨q, 0, none⟩ = some (.int .i64 m) ∧ w'.cell? ⟨q, 1, none⟩ = some (.int .u8 a) ∧ w'.cell? ⟨q, 2, none⟩ = some (.slice A n k)) (first | assumption | (apply keepW; (first | assumption | exact Below.drew (Below.refl _ _) | exact below_box _ _ _); assumption))
  (first
   | (go_at_call 60; refine (walk_states3 HTB.out hn HG.out hmax hm _ (by assumption)).mono ?_; rintro e wa ⟨SA, sk, rfl, hst, hba⟩)
   | (go_at_call 28; refine (walk_alive3 HTB.out hn HG.out hmax hm ha _ (by assumption)).mono ?_; rintro e wb ⟨BA, bk, rfl, hbt, hbb⟩)
   | (go_at_call 61; refine (walk_home3 HTB.out hn HG.out hmax hm ha _ (by assumption)).mono ?_; rintro e wz ⟨KA, kk, K, rank, rfl, hhs, hkt, hbc⟩))
 rename_i hheld
 have hbc1 := below_next hbb hbc
 have hba1 : Below V.heap.size V wz := hheld.1
 have hok := theG_ok HG.out HFT.out hm.1
 have hle := hok.le ⟨by omega, hm.2⟩
 have hfirst := theG_first rs
 have hal := alive_len HG.out HFT.out hm
 have HAI : Hid (∀ i s, (theG rs).1[i]? = some s → ((aliveL a (theG rs))[i]? = some true ↔ Alv a rs s)) := fun i s hs => alive_iff HG.out HFT.out hm hs
 have HCL := Lib.hid (theG_clo HG.out HFT.out hm)
 have HSO := Lib.hid hok.1
 have HND := Lib.hid hok.2.1
 have HHS := Lib.hid hhs
 clear hhs hok
 generalize aliveL a (theG rs) = AL at *
 generalize (theG rs).1 = LL at *
 have hpos : 0 < LL.length := (List.getElem?_eq_some_iff.1 hfirst).1
 have hpos2 : 0 < AL.length := by omega
 obtain ⟨b, rfl, hbl, hc⟩ := hst hpos
 obtain ⟨bb, rfl, hbbl, hvc⟩ := hbt hpos2
 obtain ⟨kb, ko, rfl, hkl, hkc⟩ := hkt (by rw [HHS.out.1]; exact hpos)
 have HWS : Hid (WS q m a A n k rs b bb kb ko LL AL K wz) := by
  refine ⟨HTB.out.next hba1, (StAt.keep (fun _ => ⟨b, rfl, hbl, hc⟩) hbc1).more hbc1.size, (BoolAt.keep (fun _ => ⟨bb, rfl, hbbl, hvc⟩) hbc).more hbc.size, fun _ => ⟨kb, ko, rfl, hkl, hkc⟩⟩
 have HBW : Hid (Below w.heap.size w wz) := HB.out.trans (hba1.mono HB.out.size)
 have v0 : wz.cell? ⟨bb, 0, none⟩ = some (.bool (AL[0]'hpos2)) := (hbc.cell (p := ⟨bb, 0, none⟩) hbbl).trans (hvc 0 hpos2)
 have HA0 : Hid (AL[0]? = some (AL[0]'hpos2)) := List.getElem?_eq_getElem hpos2
 have hlen0 : (0 : Int) < (LL.length : Int) := by omega
 clear hba hbb hbc hbc1 hba1 hheld hst hbt hkt hc hvc hkc hbl hbbl hkl hS HT HR HB
 generalize AL[0]'hpos2 = v at *
 cases v with
 | false =>
  have HNA : Hid (¬ Alv a rs St.start) := fun h => by
   have := (HAI.out 0 _ hfirst).2 h
   rw [HA0.out] at this; cases this
  have HE : Hid (WalkEnd a rs w (.returned (.tuple #[.slice (some ⟨wz.heap.size, 0, none⟩) 0 0, .bool false])) (wz.alloc (.cells #[] 3))) :=
   ⟨HBW.out.trans ((below_box _ _ _).mono HBW.out.size), some ⟨wz.heap.size, 0, none⟩, 0, [], World.ownsRow_lit wz #[] 0 HBW.out.size (Nat.zero_le _) rfl, .inl ⟨rfl, rfl, HNA.out⟩⟩
  go_wp2_with fail
  exact bodyPost_ret (v := .tuple #[.slice (some ⟨wz.heap.size, 0, none⟩) 0 0, .bool false]) (by simp [results, Try.results26, go_sem]) rfl HE.out
 | true =>
  have HAL0 : Hid (Alv a rs St.start) := (HAI.out 0 _ hfirst).1 HA0.out
  go_upto_region 4 with fail
  go_wp2_with fail
  refine (rStart_any _).mono ?_
  rintro e w4 ⟨rfl, hb4⟩
  rw [show St.start.val = .agg #[.int .i64 0, .int .i64 0, .int .u8 63] from rfl]
  go_upto_block 0 with fail
  have HM0 : Hid (WM wz.heap.size w4.heap.size wz (.slice (some ⟨wz.heap.size, 0, none⟩) 0 0) [] St.start (w4.alloc (.cells #[.int .i64 0, .int .i64 0, .int .u8 63] 47))) := by
   have hs := hb4.size
   simp only [World.size_alloc] at hs
   refine ⟨own_keep (own_keep (World.ownsRow_lit wz #[] 0 (Nat.le_refl _) (Nat.zero_le _) rfl) hb4) (below_box _ _ _), Blk.new _ _ _, by omega, ?_⟩
   exact (below_next (below_box wz #[] 3) hb4).alloc (by omega) _
  have HP0 : Hid (WP a rs LL [] St.start) := ⟨rfl, HAL0.out, List.mem_of_getElem? hfirst⟩
  have HLE : Hid (w.heap.size ≤ wz.heap.size) := HBW.out.size
  generalize w4.alloc (.cells #[.int .i64 0, .int .i64 0, .int .u8 63] 47) = V1 at *
  obtain ⟨sc, hsc⟩ : ∃ sc, w4.heap.size = sc := ⟨_, rfl⟩
  obtain ⟨h, hh⟩ : ∃ h, wz.heap.size = h := ⟨_, rfl⟩
  rw [hsc, hh] at HM0
  simp only [hsc, hh]
  have HH := Lib.hid hh
  have HAC := Lib.hid (good_acc HG.out ha)
  clear hsc hh hb4 hfirst v0 HA0 HAL0 hpos2 hlen0
  obtain ⟨i1, hj1, hy0, hy1, hy2⟩ := info_parts info_int
  go_cut [9, 11, 12, 13, 14, 15, 16, 17] from 32 to 107 (fun s9 _ _ _ _ _ _ _ wx => ∃ ks s, WP a rs LL ks s ∧ ks.length ≤ 10 ∧ WM h sc wz s9 ks s wx)
  case first =>
   go_wp2_with fail
   go_loopw [9, 11, 12] (fun s9 s11 s12 wr => ∃ (j z : Nat) (ks : List Int) (s : St), s12 = .int .i64 j ∧ s11 = .int .i64 z ∧ j ≤ 10 ∧ z ≤ 4 * j ∧ ks.length = j ∧ WP a rs LL ks s ∧ WM h sc wz s9 ks s wr) (fun _ _ s12 _ => 10 - (intOf s12).toNat)
   case atStart => exact ⟨0, 0, [], St.start, rfl, rfl, by omega, by omega, rfl, HP0.out, HM0.out⟩
   case round =>
    clear HM0 HP0
    obtain ⟨j, z, ks, s, rfl, rfl, hj, hz4, hkl, hp, hm9⟩ := hrel
    obtain ⟨wo, rfl⟩ : ∃ wo : World, wo = wr := ⟨_, rfl⟩
    have HKL := Lib.hid hkl
    have HP := Lib.hid hp
    have HM := Lib.hid hm9
    clear hkl hp hm9
    by_cases hgo : j < xs.length ∧ j < 10 ∧ z ≤ 10
    ·
     obtain ⟨hlt, h10, hz10⟩ := hgo
     have h10i : (j : Int) < 10 := by omega
     have hz10i : (z : Int) ≤ 10 := by omega
     go_wp2_with fail
     have HWS1 := Lib.hid (HWS.out.next (by rw [HH.out]; exact HM.out.b))
     obtain ⟨si, hsi⟩ := List.getElem?_of_mem HP.out.mem
     have HSF : Hid (s.fits) := (HSO.out s HP.out.mem).fit hm.2
     have HSI := Lib.hid hsi
     have HF0 : Hid ((wo.alloc (.cells #[] 3)).ownsRow wo.heap.size 3 1 (.slice (some ⟨wo.heap.size, 0, none⟩) 0 0) 0 (([] : List Int).map (Value.int .i64))) := World.ownsRow_lit wo #[] 0 (Nat.le_refl _) (Nat.zero_le _) rfl
     have HFB : Hid (Below wo.heap.size wo (wo.alloc (.cells #[] 3))) := below_box _ _ _
     generalize wo.alloc (.cells #[] 3) = V2 at *
     obtain ⟨g, hg⟩ : ∃ g, wo.heap.size = g := ⟨_, rfl⟩
     rw [hg] at HF0 HFB
     simp only [hg]
     have HGG := Lib.hid hg
     clear hsi hg
     go_loopw [13, 14] (fun s13 s14 wr => ∃ (kk : Nat) (F : List Int), s14 = .int .i64 kk ∧ kk ≤ n ∧ F.length ≤ kk ∧ FitL a rs LL s F ∧ wr.ownsRow g 3 1 s13 F.length (F.map (Value.int .i64)) ∧ Below g wo wr) (fun _ s14 _ => n - (intOf s14).toNat)
     case atStart => exact ⟨0, [], rfl, Nat.zero_le _, Nat.le_refl _, FitL.nil, HF0.out, HFB.out⟩
     case round =>
      clear HF0 HFB
      obtain ⟨kk, F, rfl, hk1, hfl, hfit, ho, hb⟩ := hrel
      have HFI := Lib.hid hfit
      have HMX := Lib.hid (HM.out.next (by rw [HGG.out]; exact hb))
      have HWX := Lib.hid (HWS1.out.next (by rw [HGG.out]; exact hb))
      have HO := Lib.hid ho
      have HB := Lib.hid hb
      obtain ⟨FA, fk, rfl⟩ := own_shape ho
      clear hfit ho hb
      have t0 := HWX.out.t.t.cell 0
      have t1 := HWX.out.t.t.cell 1
      have t2 := HWX.out.t.t.cell 2
      have s0 := HMX.out.blk.cell 0
      have s1 := HMX.out.blk.cell 1
      have s2 := HMX.out.blk.cell 2
      simp only [List.getElem?_toArray, List.getElem?_cons_zero, List.getElem?_cons_succ] at t0 t1 t2 s0 s1 s2
      by_cases hlk : kk < n
      ·
       have HK := Lib.hid hlk
       obtain ⟨sr, hsr⟩ : ∃ sr, stepS rs s kk = sr := ⟨_, rfl⟩
       have HSE := Lib.hid hsr
       go_wp2_with fail
       refine (rStep_any m a A n k rs s kk hn HSF.out (by omega) wr HWX.out.t.r).mono ?_
       rw [hsr]
       clear hsr
       obtain ⟨⟨ta, tb, tc⟩, okb⟩ := sr
       rintro e wb ⟨rfl, hbb⟩
       unfold St.val
       dsimp only
       have hbx := below_next hbb (below_box wb #[.int .i64 ta, .int .i64 tb, .int .u8 tc] 47)
       have HO2 := Lib.hid (own_keep HO.out hbx)
       have HB2 : Hid (Below g wo (wb.alloc (.cells #[.int .i64 ta, .int .i64 tb, .int .u8 tc] 47))) := HB.out.trans (hbx.mono (by have := HB.out.size; have := HGG.out; omega))
       have HW2 := Lib.hid (HWX.out.next hbx)
       have HD2 : Hid (Blk (wb.alloc (.cells #[.int .i64 ta, .int .i64 tb, .int .u8 tc] 47)) wb.heap.size 47 #[.int .i64 ta, .int .i64 tb, .int .u8 tc]) := Blk.new _ _ _
       clear hbb hbx t0 t1 t2 s0 s1 s2 HMX HWX HO HB
       go_upto_region 13 with fail
       generalize wb.alloc (.cells #[.int .i64 ta, .int .i64 tb, .int .u8 tc] 47) = wx at *
       obtain ⟨d, hd⟩ : ∃ d, wb.heap.size = d := ⟨_, rfl⟩
       rw [hd] at HD2
       simp only [hd]
       clear hd
       cases okb with
       | false =>
        go_wp2_with fail
        exact ⟨⟨kk + 1, F, by go_num, HK.out, by omega, HFI.out, HO2.out, HB2.out⟩, by have := HK.out; simp [intOf]; omega⟩
       | true =>
        have hmem : (⟨ta, tb, tc⟩ : St) ∈ LL := by
         have := HCL.out si _ (List.getElem?_eq_some_iff.1 HSI.out).1 HSI.out kk (by rw [hn]; exact HK.out) (by rw [HSE.out])
         rwa [HSE.out] at this
        obtain ⟨px, hpx, hpl⟩ := idx_mem hmem
        have hpl2 := (List.getElem?_eq_some_iff.1 hpl).1
        have HPL := Lib.hid hpl
        have HMEM := Lib.hid hmem
        have d0 := HD2.out.cell 0
        have d1 := HD2.out.cell 1
        have d2 := HD2.out.cell 2
        simp only [List.getElem?_toArray, List.getElem?_cons_zero, List.getElem?_cons_succ] at d0 d1 d2
        go_wp2_with fail
        refine (index_st (some ⟨b, 0, none⟩) LL.length sk LL ⟨ta, tb, tc⟩ wx rfl HW2.out.c (by omega)).mono ?_
        rintro e w12 ⟨rfl, hb12⟩
        rw [hpx]
        have HO3 := Lib.hid (own_keep HO2.out hb12)
        have HB3 : Hid (Below g wo w12) := HB2.out.trans (hb12.mono (by have := HB2.out.size; have := HGG.out; omega))
        have hav : px < AL.length := by omega
        obtain ⟨b9, e9, _, hvc⟩ := (HW2.out.next hb12).v (by omega)
        obtain rfl : bb = b9 := by injection e9 with e9; injection e9
        have v0 := hvc px hav
        have HAP : Hid (AL[px]? = some (AL[px]'hav)) := List.getElem?_eq_getElem hav
        have hp0 : (0 : Int) ≤ (px : Int) := by omega
        have hp1 : (px : Int) < (LL.length : Int) := by omega
        clear hb12 hvc e9 d0 d1 d2 HD2 HW2 HO2 HB2 hpx hmem hpl
        generalize AL[px]'hav = bq at *
        cases bq with
        | false =>
         go_wp2_with fail
         exact ⟨⟨kk + 1, F, by go_num, HK.out, by omega, HFI.out, HO3.out, HB3.out⟩, by have := HK.out; simp [intOf]; omega⟩
        | true =>
         have HAV : Hid (Alv a rs ⟨ta, tb, tc⟩) := (HAI.out px _ HPL.out).1 HAP.out
         go_upto_region 14 with fail
         have hN : Hid (Blk (w12.alloc (.cells #[.int .i64 kk] 3)) w12.heap.size 3 [Value.int .i64 kk].toArray) := Blk.new _ _ _
         have HO4 := Lib.hid (own_keep HO3.out (below_box w12 #[.int .i64 kk] 3))
         have HB4 : Hid (Below g wo (w12.alloc (.cells #[.int .i64 kk] 3))) := HB3.out.alloc (by have := HB3.out.size; have := HGG.out; omega) _
         have hsz : g ≤ (w12.alloc (.cells #[.int .i64 kk] 3)).heap.size := by have := HB4.out.size; have := HGG.out; omega
         go_wp2_with (at_builtin; refine wpList_append_own (w12.alloc (.cells #[.int .i64 kk] 3)) rfl _ _ 43 rfl g 3 i1 (.int .i64 0) 1 8 Try.underlying43 hj1 hy0 hy1 hy2 rfl (by decide) _ F.length _ rfl HO4.out ⟨w12.heap.size, 0, none⟩ 1 1 [.int .i64 kk] rfl rfl hN.out.news (by simp [Value.oneCell']) (by unfold maxLen; omega) (by omega) hsz ?_)
         intro v6 w6 hown hgr _
         have HO6 : Hid (w6.ownsRow g 3 1 v6 (F ++ [(kk : Int)]).length ((F ++ [(kk : Int)]).map (Value.int .i64))) := by
          unfold Hid
          rw [List.length_append, List.map_append]; exact hown
         have HB6 : Hid (Below g wo w6) := HB4.out.grown hgr (by have := HB4.out.size; have := HGG.out; omega) (fun g hg => (HO4.out.lt g hg).1)
         have HF6 := Lib.hid (HFI.out.add (by rw [hn]; exact HK.out) HSE.out HAV.out HMEM.out)
         clear hown hgr HO4 HB4 hN hsz HO3 HB3 v0
         go_wp2_with fail
         exact ⟨⟨kk + 1, F ++ [(kk : Int)], by go_num, HK.out, by rw [List.length_append]; simp; omega, HF6.out, HO6.out, HB6.out⟩, by have := HK.out; simp [intOf]; omega⟩
      ·
       clear s0 s1 s2
       by_cases hF : F.length = 0
       ·
        have e0 : ((F.length : Int) == 0) = true := by rw [hF]; rfl
        have HEX : Hid (∃ ks s, WP a rs LL ks s ∧ ks.length ≤ 10 ∧ WM h sc wz u9 ks s wr) := ⟨ks, s, HP.out, by rw [HKL.out]; exact hj, HMX.out⟩
        go_wp2_with fail
        go_meet
        exact HEX.out
       ·
        have e0 : ((F.length : Int) == 0) = false := by rw [beq_eq_false_iff_ne]; omega
        have HBX : Hid (Below w.heap.size w wr) := HBW.out.trans (HMX.out.b.mono (by have := HLE.out; have := HH.out; omega))
        obtain ⟨xb, xo, rfl, hxb, hxc⟩ := HX.out (by omega)
        have x0 := (HBX.out.cell (p := ⟨xb, xo + j, none⟩) hxb).trans (hxc j hlt)
        have hxj := hxs _ (List.getElem_mem hlt)
        generalize xs[j]'hlt = xj at *
        have hF0 : 0 < F.length := by omega
        obtain ⟨r, hr, hrl⟩ : ∃ r : Nat, xj % (F.length : Int) = (r : Int) ∧ r < F.length := by
         have h1 := Int.emod_nonneg xj (b := (F.length : Int)) (by omega)
         have h2 := Int.emod_lt_of_pos xj (b := (F.length : Int)) (by omega)
         exact ⟨(xj % (F.length : Int)).toNat, by omega, by omega⟩
        obtain ⟨q1, q2, q3, q4, q5⟩ := HFI.out _ (List.getElem_mem hrl)
        obtain ⟨fb, rfl, _, fc⟩ := own_cells HO.out (j := r) (x := .int .i64 (F[r]'hrl)) (by rw [List.getElem?_map, List.getElem?_eq_getElem hrl]; rfl)
        obtain ⟨kv, hkv⟩ : ∃ kv : Nat, F[r]'hrl = (kv : Int) := ⟨(F[r]'hrl).toNat, by omega⟩
        rw [hkv] at q1 q2 q3 q4 q5 fc
        have hkl2 : kv < rs.length := by omega
        obtain ⟨⟨ta, tb, tc⟩, hsr⟩ : ∃ t, stepS rs s kv = (t, true) := ⟨(stepS rs s kv).1, by rw [← q3]⟩
        rw [hsr] at q4 q5
        have HSR := Lib.hid hsr
        have HQ4 := Lib.hid q4
        have HQ5 := Lib.hid q5
        have hr0 : (0 : Int) ≤ (r : Int) := by omega
        have hr1 : (r : Int) < (F.length : Int) := by omega
        have hx0 := hxj.1
        have hx1 := hxj.2
        clear hxc hxj q1 q2 q3 q4 q5 hkv hsr
        go_upto_region 17 with fail
        have hN : Hid (Blk (wr.alloc (.cells #[.int .i64 kv] 3)) wr.heap.size 3 [Value.int .i64 kv].toArray) := Blk.new _ _ _
        have HM4 := Lib.hid (HMX.out.next (below_box wr #[.int .i64 kv] 3))
        have hsz : h ≤ (wr.alloc (.cells #[.int .i64 kv] 3)).heap.size := Nat.le_of_lt HM4.out.size
        have hkl10 : ks.length ≤ 10 := by have := HKL.out; omega
        go_wp2_with (at_builtin; refine wpList_append_own (wr.alloc (.cells #[.int .i64 kv] 3)) rfl _ _ 43 rfl h 3 i1 (.int .i64 0) 1 8 Try.underlying43 hj1 hy0 hy1 hy2 rfl (by decide) _ ks.length _ rfl HM4.out.own ⟨wr.heap.size, 0, none⟩ 1 1 [.int .i64 kv] rfl rfl hN.out.news (by simp [Value.oneCell']) (by unfold maxLen; omega) (by omega) hsz ?_)
        intro v7 w7 hown hgr _
        have HM7 := Lib.hid (HM4.out.grow (k := kv) hgr hown)
        have HW7 := Lib.hid (HWS.out.next (by rw [HH.out]; exact HM7.out.b))
        clear hown hgr HM4 hN hsz t0 t1 t2 x0 fc HMX HWX HO HB hkl10
        have t0 := HW7.out.t.t.cell 0
        have t1 := HW7.out.t.t.cell 1
        have t2 := HW7.out.t.t.cell 2
        have s0 := HM7.out.blk.cell 0
        have s1 := HM7.out.blk.cell 1
        have s2 := HM7.out.blk.cell 2
        simp only [List.getElem?_toArray, List.getElem?_cons_zero, List.getElem?_cons_succ] at t0 t1 t2 s0 s1 s2
        have HT7 := Lib.hid HW7.out.t.r
        obtain ⟨rb, ro, rfl, hrb, hcc⟩ := HW7.out.t.r (by omega)
        obtain ⟨A9, k9, c0, _⟩ := hcc kv hkl2
        obtain ⟨z1, z2, z3⟩ := sound_sizes HG.out (List.getElem_mem hkl2)
        have hkv0 : (0 : Int) ≤ (kv : Int) := by omega
        have hkv1 : (kv : Int) < (n : Int) := by omega
        clear hcc hrb z2 z3
        generalize rs[kv]'hkl2 = x at *
        go_wp2_with fail
        refine (rStep_any m a (some ⟨rb, ro, none⟩) n k rs s kv hn HSF.out (by omega) w7 HT7.out).mono ?_
        rw [HSR.out]
        rintro e wb ⟨rfl, hbb⟩
        unfold St.val
        dsimp only
        have HM8 := Lib.hid (HM7.out.next hbb)
        clear hbb t0 t1 t2 s0 s1 s2 c0 HM7 HW7 HT7
        have s0 := HM8.out.blk.cell 0
        have s1 := HM8.out.blk.cell 1
        have s2 := HM8.out.blk.cell 2
        have f0 := HM8.out.blk.free 0
        have f1 := HM8.out.blk.free 1
        have f2 := HM8.out.blk.free 2
        simp only [List.getElem?_toArray, List.getElem?_cons_zero, List.getElem?_cons_succ] at s0 s1 s2
        have HP8 := Lib.hid (HP.out.step HSR.out HQ4.out HQ5.out)
        go_wp2_with fail
        exact ⟨⟨j + 1, z + x.p.size, ks ++ [(kv : Int)], ⟨ta, tb, tc⟩, by go_num, by go_num, by omega, by omega, by rw [List.length_append, HKL.out]; rfl, HP8.out, HM8.out.put⟩, by simp [intOf]; omega⟩
    ·
     have HEX : Hid (∃ ks s, WP a rs LL ks s ∧ ks.length ≤ 10 ∧ WM h sc wz u9 ks s wo) := ⟨ks, s, HP.out, by rw [HKL.out]; exact hj, HM.out⟩
     by_cases hlt : j < xs.length
     ·
      by_cases h10 : j < 10
      ·
       have hz10 : ¬ z ≤ 10 := fun h => hgo ⟨hlt, h10, h⟩
       have h10i : (j : Int) < 10 := by omega
       have hz10i : ¬ (z : Int) ≤ 10 := by omega
       clear hgo
       go_wp2_with fail
       go_meet
       exact HEX.out
      ·
       have h10i : ¬ (j : Int) < 10 := by omega
       clear hgo
       go_wp2_with fail
       go_meet
       exact HEX.out
     ·
      clear hgo
      go_wp2_with fail
      go_meet
      exact HEX.out
  case rest =>
   obtain ⟨ks, s, hp, hkl, hm9⟩ := hcut
   have HP := Lib.hid hp
   have HM := Lib.hid hm9
   obtain ⟨i0, hi0⟩ := List.getElem?_of_mem hp.mem
   have HI0 := Lib.hid hi0
   clear HP0 HM0 hp hm9 hi0
   have HRK := Lib.hid HHS.out.rk
   have HLN : Hid (rkN LL.length rank i0 ≤ LL.length) := rk_le _ _ _
   generalize rkN LL.length rank = rk at *
   go_wp2_with fail
   go_loopg [9] (rk i0) (fun gk s9 wx => ∃ (ks : List Int) (s : St) (i : Nat), gk = rk i ∧ LL[i]? = some s ∧ WP a rs LL ks s ∧ ks.length + gk ≤ 10 + LL.length ∧ WM h sc wz s9 ks s wx)
   case atStart => exact ⟨ks, s, i0, rfl, HI0.out, HP.out, by have := HLN.out; omega, HM.out⟩
   case round =>
    clear HP HM HI0 HLN hkl ks s
    obtain ⟨ks, s, i, hgk, hi, hp, hkl, hm9⟩ := hrel
    have HGK := Lib.hid hgk
    have HI := Lib.hid hi
    have HP := Lib.hid hp
    have HM := Lib.hid hm9
    have HWX := Lib.hid (HWS.out.next (by rw [HH.out]; exact hm9.b))
    have HSF : Hid (s.fits) := (HSO.out s hp.mem).fit hm.2
    clear hgk hi hp hm9
    have t0 := HWX.out.t.t.cell 0
    have t1 := HWX.out.t.t.cell 1
    have t2 := HWX.out.t.t.cell 2
    have s0 := HM.out.blk.cell 0
    have s1 := HM.out.blk.cell 1
    have s2 := HM.out.blk.cell 2
    simp only [List.getElem?_toArray, List.getElem?_cons_zero, List.getElem?_cons_succ] at t0 t1 t2 s0 s1 s2
    go_wp2_with fail
    refine (rAccepts_any m a A n k s ha HSF.out wr).mono ?_
    rw [HAC.out]
    rintro e wb ⟨rfl, hbb⟩
    have HM1 := Lib.hid (HM.out.next hbb)
    have HW1 := Lib.hid (HWX.out.next hbb)
    clear hbb t0 t1 t2 s0 s1 s2 HM HWX
    obtain ⟨PA, pk, rfl⟩ := own_shape HM1.out.own
    cases hac : accB a s with
    | true =>
     have HE : Hid (WalkEnd a rs w (.returned (.tuple #[.slice PA ks.length pk, .bool true])) wb) := by
      have h1 := HLE.out
      have h2 := HH.out
      exact ⟨HBW.out.trans (HM1.out.b.mono (by omega)), PA, pk, ks, own_base HM1.out.own (by omega), .inr ⟨rfl, HP.out.done hac, by omega⟩⟩
     go_wp2_with fail
     exact bodyPost_ret (v := .tuple #[.slice PA ks.length pk, .bool true]) (by simp [results, Try.results26, go_sem]) rfl HE.out
    | false =>
     have hway := HRK.out.2 i s HI.out HP.out.al
     rw [hac] at hway
     rcases hway with e9 | ⟨k1, j1, w1, w2, w3, w4⟩
     ·
      cases e9
     ·
      obtain ⟨hk1, h2, h3⟩ := w2
      obtain ⟨⟨ta, tb, tc⟩, hsr⟩ : ∃ t, stepS rs s k1 = (t, true) := ⟨(stepS rs s k1).1, by rw [← h2]⟩
      rw [hsr] at h3 w4
      have HSR := Lib.hid hsr
      have HQ3 := Lib.hid h3
      have HQ4 := Lib.hid w4
      have HRL := Lib.hid w3
      have hil := (List.getElem?_eq_some_iff.1 HI.out).1
      have hik : i < K.length := by rw [HRK.out.1]; exact hil
      have HKI : Hid (K[i]'hik = (k1 : Int)) := (List.getElem?_eq_some_iff.1 w1).2
      clear h2 h3 w4 hsr w1 w3
      have t0 := HW1.out.t.t.cell 0
      have t1 := HW1.out.t.t.cell 1
      have t2 := HW1.out.t.t.cell 2
      have s0 := HM1.out.blk.cell 0
      have s1 := HM1.out.blk.cell 1
      have s2 := HM1.out.blk.cell 2
      simp only [List.getElem?_toArray, List.getElem?_cons_zero, List.getElem?_cons_succ] at t0 t1 t2 s0 s1 s2
      go_wp2_with fail
      refine (index_st (some ⟨b, 0, none⟩) LL.length sk LL s wb rfl HW1.out.c (by omega)).mono ?_
      rintro e w12 ⟨rfl, hb12⟩
      rw [nodup_idx HND.out HI.out]
      have HM2 := Lib.hid (HM1.out.next hb12)
      have HW2 := Lib.hid (HW1.out.next hb12)
      obtain ⟨b9, o9, e9, _, hkc⟩ := HW2.out.h (by omega)
      have kc := hkc i hik
      rw [HKI.out] at kc
      obtain ⟨rfl, rfl⟩ : kb = b9 ∧ ko = o9 := by injection e9 with e9; injection e9 with e9 e8; exact ⟨e9, e8⟩
      have hi0 : (0 : Int) ≤ (i : Int) := by omega
      have hi1 : (i : Int) < (LL.length : Int) := by omega
      clear hkc e9 hb12 t0 t1 t2 s0 s1 s2 HM1 HW1
      go_upto_region 22 with fail
      have hN : Hid (Blk (w12.alloc (.cells #[.int .i64 k1] 3)) w12.heap.size 3 [Value.int .i64 k1].toArray) := Blk.new _ _ _
      have HM4 := Lib.hid (HM2.out.next (below_box w12 #[.int .i64 k1] 3))
      have hsz : h ≤ (w12.alloc (.cells #[.int .i64 k1] 3)).heap.size := Nat.le_of_lt HM4.out.size
      go_wp2_with (at_builtin; refine wpList_append_own (w12.alloc (.cells #[.int .i64 k1] 3)) rfl _ _ 43 rfl h 3 i1 (.int .i64 0) 1 8 Try.underlying43 hj1 hy0 hy1 hy2 rfl (by decide) _ ks.length _ rfl HM4.out.own ⟨w12.heap.size, 0, none⟩ 1 1 [.int .i64 k1] rfl rfl hN.out.news (by simp [Value.oneCell']) (by unfold maxLen; omega) (by omega) hsz ?_)
      intro v7 w7 hown hgr _
      have HM7 := Lib.hid (HM4.out.grow (k := k1) hgr hown)
      have HW7 := Lib.hid (HWS.out.next (by rw [HH.out]; exact HM7.out.b))
      clear hown hgr HM4 hN hsz kc HM2 HW2
      have t0 := HW7.out.t.t.cell 0
      have t1 := HW7.out.t.t.cell 1
      have t2 := HW7.out.t.t.cell 2
      have s0 := HM7.out.blk.cell 0
      have s1 := HM7.out.blk.cell 1
      have s2 := HM7.out.blk.cell 2
      simp only [List.getElem?_toArray, List.getElem?_cons_zero, List.getElem?_cons_succ] at t0 t1 t2 s0 s1 s2
      go_wp2_with fail
      refine (rStep_any m a A n k rs s k1 hn HSF.out (by omega) w7 HW7.out.t.r).mono ?_
      rw [HSR.out]
      rintro e wd ⟨rfl, hbb⟩
      unfold St.val
      dsimp only
      have HM8 := Lib.hid (HM7.out.next hbb)
      clear hbb t0 t1 t2 s0 s1 s2 HM7 HW7
      have s0 := HM8.out.blk.cell 0
      have s1 := HM8.out.blk.cell 1
      have s2 := HM8.out.blk.cell 2
      have f0 := HM8.out.blk.free 0
      have f1 := HM8.out.blk.free 1
      have f2 := HM8.out.blk.free 2
      simp only [List.getElem?_toArray, List.getElem?_cons_zero, List.getElem?_cons_succ] at s0 s1 s2
      have HP8 := Lib.hid (HP.out.step HSR.out HQ4.out (List.mem_of_getElem? HQ3.out))
      go_wp2_with fail
      go_roundg (rk j1)
      case measure => have := HGK.out; have := HRL.out; omega
      case rel => exact ⟨ks ++ [(k1 : Int)], ⟨ta, tb, tc⟩, j1, rfl, HQ3.out, HP8.out, by have := HGK.out; have := HRL.out; rw [List.length_append]; simp; omega, HM8.out.put⟩
end Go.Proofs.Ytpkdlljefkbmpaa
