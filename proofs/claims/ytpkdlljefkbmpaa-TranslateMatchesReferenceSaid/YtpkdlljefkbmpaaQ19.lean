/- Merged by program: Hm1 Run1 Hm2 -/
import Derived.Test.YtpkdlljefkbmpaaQ18
import Derived.Test.YtpkdlljefkbmpaaQ16
import Derived.Test.YtpkdlljefkbmpaaQ4
import Derived.Lib.AppendStr
import Derived.Deep.LoopGhost
import Derived.Deep.CutBlock
import Derived.Deep.CutRange

/-! The reference's home: the first rules of shortest ways; what its rounds keep, purely. -/
namespace Go.Proofs.Ytpkdlljefkbmpaa
open Go.RowKit Go.Maps
def Leads (rs : List Rule) (L : List St) (s : St) (k j : Nat) : Prop := k < rs.length ∧ (stepS rs s k).2 = true ∧ L[j]? = some (stepS rs s k).1
structure HomeI (a : Int) (rs : List Rule) (L : List St) (N : List Bool) (K : List Int) (rank : Nat → Nat) (r : Nat) : Prop where
 nlen : N.length = L.length
 klen : K.length = L.length
 acc : ∀ (i : Nat) (s : St), L[i]? = some s → accB a s = true → N[i]? = some true
 way : ∀ (i : Nat) (s : St), L[i]? = some s → N[i]? = some true → accB a s = true ∨ ∃ k j : Nat, K[i]? = some (k : Int) ∧ Leads rs L s k j ∧ N[j]? = some true ∧ rank j < rank i
 sound : ∀ (i : Nat) (s : St), L[i]? = some s → N[i]? = some true → Alv a rs s
 rk : ∀ i : Nat, N[i]? = some true → rank i ≤ r
structure RingI (rs : List Rule) (L : List St) (N : List Bool) (K : List Int) (R : List Bool) (K2 : List Int) : Prop where
 rlen : R.length = L.length
 klen : K2.length = L.length
 sub : ∀ i : Nat, N[i]? = some true → R[i]? = some true ∧ K2[i]? = K[i]?
 new : ∀ (i : Nat) (s : St), L[i]? = some s → R[i]? = some true → N[i]? = some true ∨ ∃ k j : Nat, K2[i]? = some (k : Int) ∧ Leads rs L s k j ∧ N[j]? = some true
theorem HomeI.ring {a : Int} {rs : List Rule} {L : List St} {N : List Bool} {K : List Int} {rank : Nat → Nat} {r : Nat} (h : HomeI a rs L N K rank r) : RingI rs L N K N K :=
 ⟨h.nlen, h.klen, fun _ hi => ⟨hi, rfl⟩, fun _ _ _ hi => .inl hi⟩
theorem RingI.set {rs : List Rule} {L : List St} {N : List Bool} {K : List Int} {R : List Bool} {K2 : List Int} (h : RingI rs L N K R K2) {i k j : Nat} {s : St} (hi : L[i]? = some s) (hf : R[i]? = some false) (hl : Leads rs L s k j) (hj : N[j]? = some true) : RingI rs L N K (R.set i true) (K2.set i (k : Int)) := by
 have hil := (List.getElem?_eq_some_iff.1 hi).1
 refine ⟨by rw [List.length_set]; exact h.rlen, by rw [List.length_set]; exact h.klen, fun c hc => ?_, fun c t hc hr => ?_⟩
 ·
  obtain ⟨h1, h2⟩ := h.sub c hc
  have e : i ≠ c := fun e => by rw [e, h1] at hf; cases hf
  rw [List.getElem?_set_ne e, List.getElem?_set_ne e]
  exact ⟨h1, h2⟩
 ·
  by_cases e : i = c
  ·
   subst e
   rw [hi] at hc
   cases hc
   exact .inr ⟨k, j, List.getElem?_set_self (by rw [h.klen]; exact hil), hl, hj⟩
  ·
   rw [List.getElem?_set_ne e] at hr ⊢
   exact h.new c t hc hr
theorem RingI.next {a : Int} {rs : List Rule} {L : List St} {N : List Bool} {K : List Int} {R : List Bool} {K2 : List Int} {rank : Nat → Nat} {r : Nat} (h : HomeI a rs L N K rank r) (hr : RingI rs L N K R K2) : ∃ rank', HomeI a rs L R K2 rank' (r + 1) := by
 refine ⟨fun i => if N[i]? = some true then rank i else r + 1, hr.rlen, hr.klen, fun i s hi ha => (hr.sub i (h.acc i s hi ha)).1, fun i s hi hri => ?_, fun i s hi hri => ?_, fun i _ => ?_⟩
 ·
  by_cases hn : N[i]? = some true
  ·
   rcases h.way i s hi hn with e | ⟨k, j, h1, h2, h3, h4⟩
   ·
    exact .inl e
   ·
    refine .inr ⟨k, j, (hr.sub i hn).2.trans h1, h2, (hr.sub j h3).1, ?_⟩
    rw [if_pos hn, if_pos h3]; exact h4
  ·
   rcases hr.new i s hi hri with e | ⟨k, j, h1, h2, h3⟩
   ·
    exact absurd e hn
   ·
    refine .inr ⟨k, j, h1, h2, (hr.sub j h3).1, ?_⟩
    rw [if_neg hn, if_pos h3]
    have := h.rk j h3
    omega
 ·
  rcases hr.new i s hi hri with e | ⟨k, j, _, h2, h3⟩
  ·
   exact h.sound i s hi e
  ·
   exact Alv.step k h2.1 h2.2.1 (h.sound j _ h2.2.2 h3)
 ·
  split
  ·
   have := h.rk i (by assumption); omega
  ·
   exact Nat.le_refl _
def HomeS (a : Int) (rs : List Rule) (L : List St) (K : List Int) (rank : Nat → Nat) : Prop :=
 K.length = L.length ∧ ∀ (i : Nat) (s : St), L[i]? = some s → Alv a rs s → accB a s = true ∨ ∃ k j : Nat, K[i]? = some (k : Int) ∧ Leads rs L s k j ∧ rank j < rank i ∧ Alv a rs (stepS rs s k).1
theorem HomeI.done {a : Int} {rs : List Rule} {L : List St} {N : List Bool} {K : List Int} {rank : Nat → Nat} {r : Nat} (h : HomeI a rs L N K rank r) (hc : ∀ i, i < L.length → ClosedAt rs L N i) (hcl : Clo rs L L.length) : HomeS a rs L K rank := by
 have hrok : Rok a rs L N := ⟨h.nlen, h.acc, h.sound⟩
 refine ⟨h.klen, fun i s hi hv => ?_⟩
 rcases h.way i s hi (hrok.full hc hcl hi hv) with e | ⟨k, j, h1, h2, h3, h4⟩
 ·
  exact .inl e
 ·
  exact .inr ⟨k, j, h1, h2, h4, h.sound j _ h2.2.2 h3⟩
theorem home_start {a : Int} {rs : List Rule} {L : List St} : HomeI a rs L (L.map (accB a)) (List.replicate L.length (-1)) (fun _ => 0) 0 := by
 have key : ∀ (i : Nat) (s : St), L[i]? = some s → (L.map (accB a))[i]? = some true → accB a s = true := fun i s hi hr => by
  rw [List.getElem?_map, hi, Option.map_some] at hr
  exact Option.some.inj hr
 exact ⟨by simp, by simp, fun i s hi ha => by rw [List.getElem?_map, hi, Option.map_some, ha], fun i s hi hr => .inl (key i s hi hr), fun i s hi hr => Alv.acc (key i s hi hr), fun _ _ => Nat.le_refl _⟩
end Go.Proofs.Ytpkdlljefkbmpaa

/-! Package automaton: Run. -/
namespace Go.Proofs.Ytpkdlljefkbmpaa
open Go.RowKit Go.Maps

structure R0 where
 p : List Int
 c : List Int
 n : Nat
 st : St
def Rule.none : Rule := ⟨ByteArray.empty, [], 0, 0, 0, 0⟩
def ruleOf (rs : List Rule) (k : Int) : Rule := rs.getD k.toNat Rule.none
def R0.add (t : R0) (x : Rule) (s : St) : R0 := ⟨t.p ++ (bytes x.p).map fun b : Nat => (b : Int), t.c ++ x.c, t.n + 1, s⟩
def runGo (rs : List Rule) : List Int → R0 → R0
 | [], t => t
 | k :: r, t => if (stepS rs t.st k).2 then runGo rs r (t.add (ruleOf rs k) (stepS rs t.st k).1) else t
def runT (rs : List Rule) (ks : List Int) : R0 := runGo rs ks ⟨[], [], 0, St.start⟩
def runOk (a : Int) (rs : List Rule) (ks : List Int) : Bool := decide ((runT rs ks).n = ks.length) && accB a (runT rs ks).st
def SeqN (w : World) (B : Nat) (A : Option Addr) (ks : List Int) : Prop :=
 0 < ks.length → ∃ b o : Nat, A = some ⟨b, o, none⟩ ∧ b < B ∧ ∀ j (h : j < ks.length), w.cell? ⟨b, o + j, none⟩ = some (.int .i64 ks[j])
theorem SeqN.keep {w w' : World} {B : Nat} {A : Option Addr} {ks : List Int} (h : SeqN w B A ks) (hb : Below B w w') : SeqN w' B A ks := fun h0 => by
 obtain ⟨b, o, e, hB, hc⟩ := h h0
 exact ⟨b, o, e, hB, fun j hj => (hb.cell (p := ⟨b, o + j, none⟩) hB).trans (hc j hj)⟩
theorem SeqN.more {w : World} {B B' : Nat} {A : Option Addr} {ks : List Int} (h : SeqN w B A ks) (hB : B ≤ B') : SeqN w B' A ks := fun h0 => by
 obtain ⟨b, o, e, hb, hc⟩ := h h0
 exact ⟨b, o, e, by omega, hc⟩
theorem SeqN.up {w w' : World} {A : Option Addr} {ks : List Int} (h : SeqN w w.heap.size A ks) (hb : Below w.heap.size w w') : SeqN w' w'.heap.size A ks := (h.keep hb).more hb.size
def RunEnd (a : Int) (rs : List Rule) (ks : List Int) (w : World) (e : Ending) (w' : World) : Prop :=
 ∃ CA ck, e = .returned (.agg #[.string (strOf (runT rs ks).p), .slice CA (runT rs ks).c.length ck, .int .i64 ((runT rs ks).n : Nat), .int .i64 (runT rs ks).st.mode, .int .i64 (runT rs ks).st.last, .int .u8 (runT rs ks).st.need, .bool (runOk a rs ks)]) ∧ Seq w' w'.heap.size CA (runT rs ks).c ∧ Below w.heap.size w w'
theorem step_at {rs : List Rule} {s : St} {k : Int} (h : (stepS rs s k).2 = true) : ∃ j : Nat, k = j ∧ ∃ hj : j < rs.length, ruleOf rs k = rs[j] := by
 unfold stepS at h
 split at h
 ·
  cases h
 ·
  rename_i hk
  cases hx : rs[k.toNat]? with
  | none => rw [hx] at h; cases h
  | some x =>
   have hj := (List.getElem?_eq_some_iff.1 hx)
   refine ⟨k.toNat, by omega, hj.1, ?_⟩
   unfold ruleOf
   rw [List.getD_eq_getElem?_getD, List.getElem?_eq_getElem hj.1, Option.getD_some]
theorem sound_sizes {m a : Int} {rs : List Rule} (hG : GoodL m a rs) {x : Rule} (hx : x ∈ rs) : x.p.size ≤ 4 ∧ 1 ≤ x.c.length ∧ x.c.length ≤ 4 := by
 have h1 := hG.2.2 x hx
 unfold soundB cellsB at h1
 simp only [Bool.and_eq_true, decide_eq_true_eq] at h1
 exact ⟨h1.1.1.1.1.1.1.1, h1.1.1.1.1.1.2.1.1, h1.1.1.1.1.1.2.1.2⟩
theorem strCells_eq (s : ByteArray) : Lib.strCells s = ((bytes s).map fun b : Nat => (b : Int)).map (Value.int .u8) := by
 unfold Lib.strCells bytes
 simp [List.map_map, Function.comp_def]
theorem run_pre (w : World) (m a : Int) (A : Option Addr) (n k : Nat) (z : Array Value) :
  Blk ((w.alloc (.cells #[.int .i64 m, .int .u8 a, .slice A n k] 30)).alloc (.cells z 49)) w.heap.size 30 #[.int .i64 m, .int .u8 a, .slice A n k] ∧ Blk ((w.alloc (.cells #[.int .i64 m, .int .u8 a, .slice A n k] 30)).alloc (.cells z 49)) (w.heap.size + 1) 49 z ∧ Below w.heap.size w ((w.alloc (.cells #[.int .i64 m, .int .u8 a, .slice A n k] 30)).alloc (.cells z 49)) ∧ ((w.alloc (.cells #[.int .i64 m, .int .u8 a, .slice A n k] 30)).alloc (.cells z 49)).heap.size = w.heap.size + 2 := by
 have n2 := Blk.new (w.alloc (.cells #[.int .i64 m, .int .u8 a, .slice A n k] 30)) z 49
 have s : (w.alloc (.cells #[.int .i64 m, .int .u8 a, .slice A n k] 30)).heap.size = w.heap.size + 1 := by simp
 rw [s] at n2
 exact ⟨(Blk.new _ _ _).box, n2, ((Below.refl _ _).alloc (Nat.le_refl _) _).alloc (by simp) _, by simp⟩
structure RA (w0 : World) (p c : Nat) (m a : Int) (A : Option Addr) (n k : Nat) (wr : World) (t : R0) (tv cv : Value) : Prop where
 ht : Blk wr p 30 #[.int .i64 m, .int .u8 a, .slice A n k]
 hz : Blk wr (p + 1) 49 #[.string ⟨#[]⟩, .slice none 0 0, .int .i64 0, .int .i64 0, .int .i64 0, .int .u8 0, .bool false]
 hs : Blk wr c 47 #[.int .i64 t.st.mode, .int .i64 t.st.last, .int .u8 t.st.need]
 hp : wr.ownsRow (c + 1) 5 1 tv t.p.length (t.p.map (Value.int .u8))
 hc : wr.ownsRow (c + 1) 96 1 cv t.c.length (t.c.map (Value.int .u8))
 hb : Below p w0 wr
 hpc : p + 2 ≤ c
def R0.small (t : R0) (j : Nat) (m : Int) : Prop := t.p.length ≤ 4 * j ∧ t.c.length ≤ 4 * j ∧ t.n = j ∧ t.st.ok m
theorem RA.below {w0 : World} {p c : Nat} {m a : Int} {A : Option Addr} {n k : Nat} {wr w' : World} {t : R0} {tv cv : Value} (h : RA w0 p c m a A n k wr t tv cv) (hb : Below wr.heap.size wr w') : RA w0 p c m a A n k w' t tv cv :=
 ⟨h.ht.keep hb h.ht.lt, h.hz.keep hb h.hz.lt, h.hs.keep hb h.hs.lt, own_keep h.hp hb, own_keep h.hc hb, h.hb.trans (hb.mono (by have := h.ht.lt; omega)), h.hpc⟩
theorem RA.text {w0 : World} {p c : Nat} {m a : Int} {A : Option Addr} {n k : Nat} {wr w' : World} {t : R0} {tv cv v : Value} {q : List Int} (h : RA w0 p c m a A n k wr t tv cv) (ho : w'.ownsRow (c + 1) 5 1 v (t.p ++ q).length ((t.p ++ q).map (Value.int .u8))) (hg : wr.grownBy w' tv.ownBlock) : RA w0 p c m a A n k w' ⟨t.p ++ q, t.c, t.n, t.st⟩ v cv := by
 refine ⟨(hg.block p h.ht.lt (own_ne3 h.hp h.ht (by decide)).symm).trans h.ht, (hg.block _ h.hz.lt (own_ne3 h.hp h.hz (by decide)).symm).trans h.hz, (hg.block _ h.hs.lt (own_ne3 h.hp h.hs (by decide)).symm).trans h.hs, ho, own_move h.hc fun b hb => ?_, h.hb.grown hg (by have := h.ht.lt; omega) (fun g hg' => ?_), h.hpc⟩
 ·
  obtain ⟨cur, hc⟩ := own_blk h.hc hb
  exact hg.block b hc.lt (own_ne3 h.hp hc (by decide)).symm
 ·
  have := (h.hp.lt g hg').1
  have := h.hpc
  omega
theorem RA.cells {w0 : World} {p c : Nat} {m a : Int} {A : Option Addr} {n k : Nat} {wr w' : World} {t : R0} {tv cv v : Value} {q : List Int} (h : RA w0 p c m a A n k wr t tv cv) (ho : w'.ownsRow (c + 1) 96 1 v (t.c ++ q).length ((t.c ++ q).map (Value.int .u8))) (hg : wr.grownBy w' cv.ownBlock) : RA w0 p c m a A n k w' ⟨t.p, t.c ++ q, t.n, t.st⟩ tv v := by
 refine ⟨(hg.block p h.ht.lt (own_ne3 h.hc h.ht (by decide)).symm).trans h.ht, (hg.block _ h.hz.lt (own_ne3 h.hc h.hz (by decide)).symm).trans h.hz, (hg.block _ h.hs.lt (own_ne3 h.hc h.hs (by decide)).symm).trans h.hs, own_move h.hp fun b hb => ?_, ho, h.hb.grown hg (by have := h.ht.lt; omega) (fun g hg' => ?_), h.hpc⟩
 ·
  obtain ⟨cur, hc⟩ := own_blk h.hp hb
  exact hg.block b hc.lt (own_ne3 h.hc hc (by decide)).symm
 ·
  have := (h.hc.lt g hg').1
  have := h.hpc
  omega
theorem RA.state {w0 : World} {p c : Nat} {m a : Int} {A : Option Addr} {n k : Nat} {wr : World} {t : R0} {tv cv : Value} (s : St) (i : Nat) (h : RA w0 p c m a A n k wr t tv cv) : RA w0 p c m a A n k (((wr.setCell ⟨c, 0, none⟩ (.int .i64 s.mode)).setCell ⟨c, 1, none⟩ (.int .i64 s.last)).setCell ⟨c, 2, none⟩ (.int .u8 s.need)) ⟨t.p, t.c, i, s⟩ tv cv := by
 have key : ∀ b, b ≠ c → (((wr.setCell ⟨c, 0, none⟩ (.int .i64 s.mode)).setCell ⟨c, 1, none⟩ (.int .i64 s.last)).setCell ⟨c, 2, none⟩ (.int .u8 s.need)).heap[b]? = wr.heap[b]? := fun b hb =>
  ((Below.heap_setCell _ ⟨c, 2, none⟩ _ b hb).trans (Below.heap_setCell _ ⟨c, 1, none⟩ _ b hb)).trans (Below.heap_setCell _ ⟨c, 0, none⟩ _ b hb)
 have hs1 := ((h.hs.set 0 (.int .i64 s.mode)).set 1 (.int .i64 s.last)).set 2 (.int .u8 s.need)
 have hpc := h.hpc
 refine ⟨(key p (by omega)).trans h.ht, (key _ (by omega)).trans h.hz, hs1, own_move h.hp fun b hb => ?_, own_move h.hc fun b hb => ?_, ((h.hb.setCell (by show p ≤ c; omega) _).setCell (by show p ≤ c; omega) _).setCell (by show p ≤ c; omega) _, hpc⟩
 ·
  have := (h.hp.lt b hb).1
  exact key b (by omega)
 ·
  have := (h.hc.lt b hb).1
  exact key b (by omega)
theorem RA.drew {w0 : World} {p c : Nat} {m a : Int} {A : Option Addr} {n k : Nat} {wr : World} {t : R0} {tv cv : Value} (h : RA w0 p c m a A n k wr t tv cv) : RA w0 p c m a A n k wr.drew t tv cv := ⟨h.ht, h.hz, h.hs, h.hp, h.hc, h.hb.drew, h.hpc⟩
theorem conv_any {W : World} {B n : Nat} {v : Value} {l : List Int} (hl : l.length = n) (h : W.ownsRow B 5 1 v n (l.map (Value.int .u8))) : (convert 25 9 v).run Try.prog W = .ok (.string (strOf l)) W := by
 rcases h.2 with ⟨rfl, rfl⟩ | ⟨g, cap, cur, rfl, _⟩
 ·
  obtain rfl : l = [] := List.eq_nil_of_length_eq_zero hl
  rw [run_convert_bytes_string W _ _ _ _ _ _ Try.underlying25 Try.underlying5 Try.underlying9]
  rfl
 ·
  exact conv_own W B g n cap l hl h
theorem trace_out {w0 w : World} {q B lo : Nat} {z : Array Value} {A : Option Addr} {xs : List Int} (hz : Blk w q 49 z) (hS : SeqT w lo A xs) (hB : Below B w0 w) (hq : B ≤ q) (v0 v1 v2 v3 v4 v5 v6 : Value) :
  Seq (((((((w.setCell ⟨q, 0, none⟩ v0).setCell ⟨q, 1, none⟩ v1).setCell ⟨q, 2, none⟩ v2).setCell ⟨q, 3, none⟩ v3).setCell ⟨q, 4, none⟩ v4).setCell ⟨q, 5, none⟩ v5).setCell ⟨q, 6, none⟩ v6) (((((((w.setCell ⟨q, 0, none⟩ v0).setCell ⟨q, 1, none⟩ v1).setCell ⟨q, 2, none⟩ v2).setCell ⟨q, 3, none⟩ v3).setCell ⟨q, 4, none⟩ v4).setCell ⟨q, 5, none⟩ v5).setCell ⟨q, 6, none⟩ v6).heap.size A xs ∧ Below B w0 (((((((w.setCell ⟨q, 0, none⟩ v0).setCell ⟨q, 1, none⟩ v1).setCell ⟨q, 2, none⟩ v2).setCell ⟨q, 3, none⟩ v3).setCell ⟨q, 4, none⟩ v4).setCell ⟨q, 5, none⟩ v5).setCell ⟨q, 6, none⟩ v6) := by
 have hne : 96 ≠ 49 := by decide
 have h0 := hz.set 0 v0
 have h1 := h0.set 1 v1
 have h2 := h1.set 2 v2
 have h3 := h2.set 3 v3
 have h4 := h3.set 4 v4
 have h5 := h4.set 5 v5
 exact ⟨(((((((hS.set hz hne v0).set h0 hne v1).set h1 hne v2).set h2 hne v3).set h3 hne v4).set h4 hne v5).set h5 hne v6).seq,
  ((((((hB.setCell hq _).setCell hq _).setCell hq _).setCell hq _).setCell hq _).setCell hq _).setCell hq _⟩
set_option maxRecDepth 10000 in
set_option maxHeartbeats 2000000 in
theorem run_any (m a : Int) (A : Option Addr) (n k : Nat) (rs : List Rule) (PA : Option Addr) (pn pk : Nat) (ks : List Int) (w : World) (hn : rs.length = n) (hR : Rules w w.heap.size A rs) (hG : GoodL m a rs) (hmax : n ≤ 64) (hm : 1 ≤ m ∧ m ≤ 8) (ha : 0 ≤ a ∧ a < 256) (hks : ks.length = pn) (hP : SeqN w w.heap.size PA ks) (hpm : pn ≤ 1000000) :
  Calls Try.prog 114 #[.agg #[.int .i64 m, .int .u8 a, .slice A n k], .slice PA pn pk] w (RunEnd a rs ks w) := by
 have HP0 := Lib.hid (run_pre w m a A n k #[.string ⟨#[]⟩, .slice none 0 0, .int .i64 0, .int .i64 0, .int .i64 0, .int .u8 0, .bool false])
 have HR := Lib.hid hR
 have HN := Lib.hid hn
 have HG := Lib.hid hG
 have HFT := Lib.hid hR.fit
 have HKS := Lib.hid hks
 have HPA := Lib.hid hP
 clear hR hn hG hks hP
 go_enter Try.func114, Try.ntmps114
 go_wp2_with fail
 generalize (w.alloc (.cells #[.int .i64 m, .int .u8 a, .slice A n k] 30)).alloc (.cells #[.string ⟨#[]⟩, .slice none 0 0, .int .i64 0, .int .i64 0, .int .i64 0, .int .u8 0, .bool false] 49) = V at *
 obtain ⟨p, hp⟩ : ∃ p, w.heap.size = p := ⟨_, rfl⟩
 rw [hp] at HP0 HR HPA
 simp only [hp]
 have HW := Lib.hid hp
 clear hp
 refine (start_any V).mono ?_
 rintro e w1 ⟨rfl, hb1⟩
 rw [show St.start.val = .agg #[.int .i64 0, .int .i64 0, .int .u8 63] from rfl]
 have HV2 : Hid (RA w p w1.heap.size m a A n k (w1.alloc (.cells #[.int .i64 0, .int .i64 0, .int .u8 63] 47)) ⟨[], [], 0, St.start⟩ (.slice none 0 0) (.slice none 0 0)) := by
  have hs1 := hb1.size
  have hv := HP0.out.2.2.2
  refine ⟨(HP0.out.1.keep hb1 HP0.out.1.lt).box, (HP0.out.2.1.keep hb1 HP0.out.2.1.lt).box, Blk.new _ _ _, World.ownsRow_nil _ _ _ _, World.ownsRow_nil _ _ _ _, ?_, by omega⟩
  exact (HP0.out.2.2.1.trans (hb1.mono (by omega))).alloc (by omega) _
 clear hb1 HP0
 go_upto_block 0 with fail
 generalize w1.alloc (.cells #[.int .i64 0, .int .i64 0, .int .u8 63] 47) = V2 at *
 obtain ⟨c, hc⟩ : ∃ c, w1.heap.size = c := ⟨_, rfl⟩
 rw [hc] at HV2
 simp only [hc]
 clear hc
 go_cut [5, 6, 7, 10, 11, 12] from 17 to 49 (fun s5 s6 s7 _ _ _ wx => ∃ t, t = runT rs ks ∧ s7 = .int .i64 (t.n : Nat) ∧ t.n ≤ pn ∧ t.small t.n m ∧ RA w p c m a A n k wx t s5 s6)
 case first =>
  go_wp2_with fail
  go_loopw [5, 6, 7, 17] (fun tv cv x y wr => ∃ (j : Nat) (t : R0), x = .int .i64 j ∧ y = .int .i64 j ∧ j ≤ pn ∧ t.small j m ∧ runGo rs (ks.drop j) t = runT rs ks ∧ RA w p c m a A n k wr t tv cv) (fun _ _ _ y _ => pn - (intOf y).toNat)
  case atStart => exact ⟨0, _, rfl, rfl, Nat.zero_le _, ⟨by simp, by simp, rfl, start_ok hm.1⟩, rfl, HV2.out⟩
  case round =>
   obtain ⟨j, t, rfl, rfl, hj, hsm, hgo, hra⟩ := hrel
   clear HV2
   by_cases hlt : j < pn
   ·
    have hjl : j < ks.length := by have := HKS.out; omega
    obtain ⟨bk, ok, rfl, hbk, hck⟩ := HPA.out (by omega)
    have d0 := (hra.hb.cell (p := ⟨bk, ok + j, none⟩) (by show bk < _; omega)).trans (hck j hjl)
    have HDR : Hid (ks.drop j = ks[j]'hjl :: ks.drop (j + 1)) := List.drop_eq_getElem_cons hjl
    have hgo2 := hgo
    rw [HDR.out] at hgo2
    clear hck
    generalize ks[j]'hjl = kv at *
    obtain ⟨sr, hsr⟩ : ∃ sr, stepS rs t.st kv = sr := ⟨_, rfl⟩
    have hGO : Hid ((if sr.2 then runGo rs (ks.drop (j + 1)) (t.add (ruleOf rs kv) sr.1) else t) = runT rs ks) := by
     unfold Hid; rw [← hgo2, ← hsr]; rfl
    have t0 := hra.ht.cell 0
    have t1 := hra.ht.cell 1
    have t2 := hra.ht.cell 2
    have s0 := hra.hs.cell 0
    have s1 := hra.hs.cell 1
    have s2 := hra.hs.cell 2
    simp only [List.getElem?_toArray, List.getElem?_cons_zero, List.getElem?_cons_succ] at t0 t1 t2 s0 s1 s2
    have HRA := Lib.hid hra
    have HSM := Lib.hid hsm
    have HSR := Lib.hid hsr
    have HL := Lib.hid hlt
    have hj0 : (0 : Int) ≤ (j : Int) := by omega
    have hjn : (j : Int) < (pn : Int) := by omega
    have hRw : Rules wr wr.heap.size A rs := (HR.out.keep hra.hb).more (by have := hra.hb.size; have := HW.out; omega)
    have HRW := Lib.hid hRw
    clear hra hsm hsr hgo hgo2 hRw
    go_wp2_with fail
    refine (step_any m a A n k rs t.st kv HN.out (HSM.out.2.2.2.fit hm.2) (by omega) wr HRW.out).mono ?_
    rintro e wb ⟨rfl, hbb⟩
    rw [HSR.out]
    obtain ⟨⟨ta, tb, tc⟩, okb⟩ := sr
    unfold St.val
    dsimp only
    have HRB := Lib.hid (HRA.out.below hbb)
    clear hbb t0 t1 t2 s0 s1 s2 d0 HRA HRW
    go_upto_region 8 with fail
    have BX := below_box wb #[.int .i64 ta, .int .i64 tb, .int .u8 tc] 47
    have DX : Hid (Blk (wb.alloc (.cells #[.int .i64 ta, .int .i64 tb, .int .u8 tc] 47)) wb.heap.size 47 #[.int .i64 ta, .int .i64 tb, .int .u8 tc]) := Blk.new _ _ _
    have HRX := Lib.hid (HRB.out.below BX)
    have hcd : c < wb.heap.size := HRB.out.hs.lt
    clear HRB BX
    generalize wb.alloc (.cells #[.int .i64 ta, .int .i64 tb, .int .u8 tc] 47) = wx at *
    obtain ⟨d, hd⟩ : ∃ d, wb.heap.size = d := ⟨_, rfl⟩
    rw [hd] at DX hcd ⊢
    cases okb
    ·
     have HF : Hid (t = runT rs ks) := by unfold Hid; have := hGO.out; simpa using this
     clear hGO
     go_wp2_with fail
     go_meet
     have hnj := HSM.out.2.2.1
     exact ⟨t, HF.out, by rw [hnj], by omega, by rw [hnj]; exact HSM.out, HRX.out⟩
    ·
     obtain ⟨jj, rfl, hjj, hxe⟩ := step_at (rs := rs) (s := t.st) (k := kv) (by rw [HSR.out])
     have hok2 : St.ok ⟨ta, tb, tc⟩ m := by
      have h := step_ok HG.out HFT.out HSM.out.2.2.2 (k := (jj : Int)) (by rw [HSR.out])
      rw [HSR.out] at h; exact h
     have HGO2 : Hid (runGo rs (ks.drop (j + 1)) (t.add rs[jj] ⟨ta, tb, tc⟩) = runT rs ks) := by unfold Hid; have := hGO.out; rw [hxe] at this; simpa using this
     have hxm := List.getElem_mem hjj
     obtain ⟨z1, z2, z3⟩ := sound_sizes HG.out hxm
     obtain ⟨b, o, rfl, hB, hcc⟩ := HR.out (by omega)
     obtain ⟨A9, k9, e0, e1, _, _, _, _, hsq, _⟩ := hcc jj hjj
     obtain ⟨bx, ox, e9, hbx, hcx⟩ := hsq (by omega)
     subst e9
     have d0 := (HRX.out.hb.cell (p := ⟨b, o + jj * 6, none⟩) hB).trans e0
     have D1 := Lib.hid e1
     have t2 := HRX.out.ht.cell 2
     simp only [List.getElem?_toArray, List.getElem?_cons_zero, List.getElem?_cons_succ] at t2
     have HOK2 := Lib.hid hok2
     have hjn2 : (jj : Int) < (n : Int) := by have := HN.out; omega
     have hjj0 : (0 : Int) ≤ (jj : Int) := by omega
     clear hcc hsq hGO hxe hxm hok2 e0 e1
     generalize rs[jj]'hjj = x at *
     obtain ⟨i0, hi, hz0, hz1, hz2⟩ := info_parts info_u8
     obtain ⟨i1, hj1, hy0, hy1, hy2⟩ := info_parts info_cell
     have hsm1 := HSM.out.1
     have hsm2 := HSM.out.2.1
     have hcw : c + 1 ≤ wx.heap.size := by have := DX.out.lt; omega
     go_wp2_with (at_builtin; refine Lib.wpList_append_own_string wx rfl _ _ 25 9 rfl (c + 1) 5 i0 Try.underlying25 Try.underlying9 hi hz0 hz1 hz2 u5 t.p.length _ rfl HRX.out.hp x.p rfl (by unfold maxLen; omega) (by omega) hcw ?_)
     intro v2 w2 hown2 hgr2 hnil2
     have hR2 : Hid (RA w p c m a (some ⟨b, o, none⟩) n k w2 ⟨t.p ++ (bytes x.p).map (fun b : Nat => (b : Int)), t.c, t.n, t.st⟩ v2 u6) := by
      refine HRX.out.text (q := (bytes x.p).map fun b : Nat => (b : Int)) ?_ hgr2
      rw [List.map_append, List.length_append, List.length_map, bytes_len, ← strCells_eq]
      exact hown2
     have hw2s := hgr2.size
     have DX2 : Hid (Blk w2 d 47 #[.int .i64 ta, .int .i64 tb, .int .u8 tc]) := (hgr2.block d DX.out.lt (own_ne3 HRX.out.hp DX.out (by decide)).symm).trans DX.out
     clear hown2 hgr2 hnil2 d0 t2 HRX DX
     have t2 := hR2.out.ht.cell 2
     simp only [List.getElem?_toArray, List.getElem?_cons_zero, List.getElem?_cons_succ] at t2
     have d1 := (hR2.out.hb.cell (p := ⟨b, o + jj * 6 + 1, none⟩) hB).trans D1.out
     have hnews : ∀ (i : Nat) (u : Value), (x.c.map (Value.int .u8))[i]? = some u → w2.cell? ((⟨bx, ox, none⟩ : Addr).add i) = some u := fun i u hu => by
      rw [List.getElem?_map] at hu
      cases hi : x.c[i]? with
      | none => rw [hi] at hu; cases hu
      | some z =>
       rw [hi] at hu
       injection hu with hu
       have hil := (List.getElem?_eq_some_iff.1 hi)
       rw [plain_add, ← hu, ← hil.2]
       exact (hR2.out.hb.cell (p := ⟨bx, ox + i, none⟩) hbx).trans (hcx i hil.1)
     go_wp2_with (at_builtin; refine wpList_append_own w2 rfl _ _ 32 rfl (c + 1) 96 i1 (.int .u8 0) 1 1 Try.underlying32 hj1 hy0 hy1 hy2 rfl (by decide) u6 t.c.length _ rfl hR2.out.hc ⟨bx, ox, none⟩ x.c.length k9 (x.c.map (Value.int .u8)) rfl (by simp) hnews (ints_oneCell .u8 x.c) (by unfold maxLen; omega) (by omega) (by omega) ?_)
     intro v3 w3 hown3 hgr3 hnil3
     have hR3 : Hid (RA w p c m a (some ⟨b, o, none⟩) n k w3 ⟨t.p ++ (bytes x.p).map (fun b : Nat => (b : Int)), t.c ++ x.c, t.n, t.st⟩ v2 v3) := by
      refine hR2.out.cells (q := x.c) ?_ hgr3
      rw [List.map_append, List.length_append]
      exact hown3
     have DX3 : Hid (Blk w3 d 47 #[.int .i64 ta, .int .i64 tb, .int .u8 tc]) := (hgr3.block d DX2.out.lt (own_ne3 hR2.out.hc DX2.out (by decide)).symm).trans DX2.out
     clear hown3 hgr3 hnil3 hnews d1 t2 hR2 DX2
     have s0 := hR3.out.hs.cell 0
     have s1 := hR3.out.hs.cell 1
     have s2 := hR3.out.hs.cell 2
     have f0 := hR3.out.hs.free 0
     have f1 := hR3.out.hs.free 1
     have f2 := hR3.out.hs.free 2
     have d0 := DX3.out.cell 0
     have d1 := DX3.out.cell 1
     have d2 := DX3.out.cell 2
     simp only [List.getElem?_toArray, List.getElem?_cons_zero, List.getElem?_cons_succ] at s0 s1 s2 d0 d1 d2
     go_upto_region 11 with fail
     go_region
     go_wp2_with fail
     have hE := (RA.state ⟨ta, tb, tc⟩ (t.n + 1) hR3.out).drew
     refine ⟨⟨j + 1, t.add x ⟨ta, tb, tc⟩, by go_num, by go_num, HL.out, ⟨?_, ?_, ?_, HOK2.out⟩, HGO2.out, hE⟩, ?_⟩
     ·
      show (t.p ++ (bytes x.p).map fun b : Nat => (b : Int)).length ≤ _
      rw [List.length_append, List.length_map, bytes_len]; omega
     ·
      show (t.c ++ x.c).length ≤ _
      rw [List.length_append]; omega
     ·
      show t.n + 1 = j + 1
      have := HSM.out.2.2.1; omega
     ·
      have := HL.out; simp [intOf]; omega
   ·
    have : j = pn := by omega
    have HF : Hid (t = runT rs ks) := by
     unfold Hid
     rw [← hgo, List.drop_eq_nil_of_le (by have := HKS.out; omega)]; rfl
    have hnj := hsm.2.2.1
    have HRX := Lib.hid hra
    have HSM := Lib.hid hsm
    clear hra hsm hgo
    go_wp2_with fail
    go_meet
    exact ⟨t, HF.out, by rw [hnj], by omega, by rw [hnj]; exact HSM.out, HRX.out⟩
 case rest =>
  obtain ⟨t, ht, rfl, hnle, hsm, hra⟩ := hcut
  have HT := Lib.hid ht
  have HRA := Lib.hid hra
  have t0 := hra.ht.cell 0
  have t1 := hra.ht.cell 1
  have t2 := hra.ht.cell 2
  have s0 := hra.hs.cell 0
  have s1 := hra.hs.cell 1
  have s2 := hra.hs.cell 2
  simp only [List.getElem?_toArray, List.getElem?_cons_zero, List.getElem?_cons_succ] at t0 t1 t2 s0 s1 s2
  have HFIT := Lib.hid (hsm.2.2.2.fit hm.2)
  have hsm1 := hsm.1
  have hsm2 := hsm.2.1
  clear hra ht HV2 hsm
  have z0 := HRA.out.hz.cell 0
  have z1 := HRA.out.hz.cell 1
  have z2 := HRA.out.hz.cell 2
  have z3 := HRA.out.hz.cell 3
  have z4 := HRA.out.hz.cell 4
  have z5 := HRA.out.hz.cell 5
  have z6 := HRA.out.hz.cell 6
  simp only [List.getElem?_toArray, List.getElem?_cons_zero, List.getElem?_cons_succ] at z0 z1 z2 z3 z4 z5 z6
  clear z0 z1 z2 z3 z4 z5 z6
  by_cases hx : t.n = pn
  ·
   have HX := Lib.hid hx
   have hbx : ((t.n : Int) == (pn : Int)) = true := by rw [hx]; exact beq_self_eq_true _
   clear hx
   go_wp2_with fail
   refine (accepts_any m a A n k t.st ha HFIT.out wc).mono ?_
   rintro e wy ⟨rfl, hby⟩
   have HRY := Lib.hid (HRA.out.below hby)
   clear hby t0 t1 t2 s0 s1 s2 HRA
   go_upto_region 14 with fail
   obtain ⟨CA, ck, rfl⟩ := own_shape HRY.out.hc
   have hcv := conv_any rfl HRY.out.hp
   have s0 := HRY.out.hs.cell 0
   have s1 := HRY.out.hs.cell 1
   have s2 := HRY.out.hs.cell 2
   have z0 := HRY.out.hz.cell 0
   have z1 := HRY.out.hz.cell 1
   have z2 := HRY.out.hz.cell 2
   have z3 := HRY.out.hz.cell 3
   have z4 := HRY.out.hz.cell 4
   have z5 := HRY.out.hz.cell 5
   have z6 := HRY.out.hz.cell 6
   have f0 := HRY.out.hz.free 0
   have f1 := HRY.out.hz.free 1
   have f2 := HRY.out.hz.free 2
   have f3 := HRY.out.hz.free 3
   have f4 := HRY.out.hz.free 4
   have f5 := HRY.out.hz.free 5
   have f6 := HRY.out.hz.free 6
   simp only [List.getElem?_toArray, List.getElem?_cons_zero, List.getElem?_cons_succ] at s0 s1 s2 z0 z1 z2 z3 z4 z5 z6
   go_wp2_with fail
   have hq := ((((((HRY.out.hz.set 0 (.string (strOf t.p))).set 1 (.slice CA t.c.length ck)).set 2 (.int .i64 (t.n : Nat))).set 3 (.int .i64 t.st.mode)).set 4 (.int .i64 t.st.last)).set 5 (.int .u8 t.st.need)).set 6 (.bool (accB a t.st))
   have hout := trace_out HRY.out.hz (own_seqT HRY.out.hc) HRY.out.hb (Nat.le_succ p) (.string (strOf t.p)) (.slice CA t.c.length ck) (.int .i64 (t.n : Nat)) (.int .i64 t.st.mode) (.int .i64 t.st.last) (.int .u8 t.st.need) (.bool (accB a t.st))
   clear z0 z1 z2 z3 z4 z5 z6 f0 f1 f2 f3 f4 f5 f6 s0 s1 s2
   refine bodyPost_ret (v := .agg #[.string (strOf t.p), .slice CA t.c.length ck, .int .i64 (t.n : Nat), .int .i64 t.st.mode, .int .i64 t.st.last, .int .u8 t.st.need, .bool (accB a t.st)]) ?_ rfl ⟨CA, ck, ?_, ?_, ?_⟩
   ·
    have y0 := hq.cell 0
    have y1 := hq.cell 1
    have y2 := hq.cell 2
    have y3 := hq.cell 3
    have y4 := hq.cell 4
    have y5 := hq.cell 5
    have y6 := hq.cell 6
    simp [results, Try.results114, go_sem, y0, y1, y2, y3, y4, y5, y6]
   ·
    have hok : runOk a rs ks = (accB a t.st) := by
     unfold runOk
     rw [← HT.out]
     rw [HX.out, HKS.out]; simp
    rw [hok, ← HT.out]
   ·
    rw [← HT.out]; exact hout.1
   ·
    rw [HW.out]; exact hout.2
  ·
   have HX := Lib.hid hx
   have hbx : ((t.n : Int) == (pn : Int)) = false := by
    rw [beq_eq_false_iff_ne]; intro e; exact hx (Int.ofNat.inj e)
   clear hx
   go_upto_region 14 with fail
   obtain ⟨CA, ck, rfl⟩ := own_shape HRA.out.hc
   have hcv := conv_any rfl HRA.out.hp
   have s0 := HRA.out.hs.cell 0
   have s1 := HRA.out.hs.cell 1
   have s2 := HRA.out.hs.cell 2
   have z0 := HRA.out.hz.cell 0
   have z1 := HRA.out.hz.cell 1
   have z2 := HRA.out.hz.cell 2
   have z3 := HRA.out.hz.cell 3
   have z4 := HRA.out.hz.cell 4
   have z5 := HRA.out.hz.cell 5
   have z6 := HRA.out.hz.cell 6
   have f0 := HRA.out.hz.free 0
   have f1 := HRA.out.hz.free 1
   have f2 := HRA.out.hz.free 2
   have f3 := HRA.out.hz.free 3
   have f4 := HRA.out.hz.free 4
   have f5 := HRA.out.hz.free 5
   have f6 := HRA.out.hz.free 6
   simp only [List.getElem?_toArray, List.getElem?_cons_zero, List.getElem?_cons_succ] at s0 s1 s2 z0 z1 z2 z3 z4 z5 z6
   go_wp2_with fail
   have hq := ((((((HRA.out.hz.set 0 (.string (strOf t.p))).set 1 (.slice CA t.c.length ck)).set 2 (.int .i64 (t.n : Nat))).set 3 (.int .i64 t.st.mode)).set 4 (.int .i64 t.st.last)).set 5 (.int .u8 t.st.need)).set 6 (.bool false)
   have hout := trace_out HRA.out.hz (own_seqT HRA.out.hc) HRA.out.hb (Nat.le_succ p) (.string (strOf t.p)) (.slice CA t.c.length ck) (.int .i64 (t.n : Nat)) (.int .i64 t.st.mode) (.int .i64 t.st.last) (.int .u8 t.st.need) (.bool false)
   clear z0 z1 z2 z3 z4 z5 z6 f0 f1 f2 f3 f4 f5 f6 s0 s1 s2
   refine bodyPost_ret (v := .agg #[.string (strOf t.p), .slice CA t.c.length ck, .int .i64 (t.n : Nat), .int .i64 t.st.mode, .int .i64 t.st.last, .int .u8 t.st.need, .bool false]) ?_ rfl ⟨CA, ck, ?_, ?_, ?_⟩
   ·
    have y0 := hq.cell 0
    have y1 := hq.cell 1
    have y2 := hq.cell 2
    have y3 := hq.cell 3
    have y4 := hq.cell 4
    have y5 := hq.cell 5
    have y6 := hq.cell 6
    simp [results, Try.results114, go_sem, y0, y1, y2, y3, y4, y5, y6]
   ·
    have hok : runOk a rs ks = false := by
     unfold runOk
     rw [← HT.out]
     rw [HKS.out, decide_eq_false HX.out]; rfl
    rw [hok, ← HT.out]
   ·
    rw [← HT.out]; exact hout.1
   ·
    rw [HW.out]; exact hout.2
end Go.Proofs.Ytpkdlljefkbmpaa

/-! The reference's home: the walk. -/
namespace Go.Proofs.Ytpkdlljefkbmpaa
open Go.RowKit Go.Maps
def HomeEnd (a : Int) (rs : List Rule) (w : World) (e : Ending) (w' : World) : Prop :=
 ∃ A k K rank, e = .returned (.slice A (theG rs).1.length k) ∧ HomeS a rs (theG rs).1 K rank ∧ SeqN w' w'.heap.size A K ∧ Below w.heap.size w w'
theorem own_seqN {w : World} {base k : Nat} {A : Option Addr} {K : List Int} (h : w.ownsRow base 3 1 (.slice A K.length k) K.length (K.map (Value.int .i64))) : SeqN w w.heap.size A K := fun h0 => by
 obtain ⟨b, e, hb, _⟩ := own_cells h (j := 0) (x := .int .i64 K[0]) (by rw [List.getElem?_map, List.getElem?_eq_getElem h0]; rfl)
 refine ⟨b, 0, e, hb, fun j hj => ?_⟩
 obtain ⟨b', e', _, hc⟩ := own_cells h (j := j) (x := .int .i64 K[j]) (by rw [List.getElem?_map, List.getElem?_eq_getElem hj]; rfl)
 rw [e] at e'
 injection e' with e'
 injection e' with e'
 subst e'
 rw [Nat.zero_add]
 exact hc
theorem own_other {w w' : World} {base base2 s s2 n n2 : Nat} {e e2 : TypeId} {v v2 : Value} {xs ys : List Value} (h : w.ownsRow base e s v n xs) (h2 : w.ownsRow base2 e2 s2 v2 n2 ys) (hg : w.grownBy w' v2.ownBlock) (hne : e2 ≠ e) : w'.ownsRow base e s v n xs := own_move h fun b hb => by
 obtain ⟨cur, hc⟩ := own_blk h hb
 exact hg.block b hc.lt (own_ne3 h2 hc hne).symm
theorem own_setO {w : World} {base n cap g q i : Nat} {e : TypeId} {size : Nat} {xs : List Value} (h : w.ownsRow base e size (.slice (some ⟨g, 0, none⟩) n cap) n xs) (hne : g ≠ q) (u : Value) : (w.setCell ⟨q, i, none⟩ u).ownsRow base e size (.slice (some ⟨g, 0, none⟩) n cap) n xs := own_move h fun b hb => by
 have e1 : g = b := by injection hb
 subst e1
 exact Below.heap_setCell w ⟨q, i, none⟩ u g hne
set_option maxRecDepth 10000 in
set_option maxHeartbeats 4000000 in
theorem home_any (m a : Int) (A : Option Addr) (n k : Nat) (rs : List Rule) (w : World) (hn : rs.length = n) (hR : Rules w w.heap.size A rs) (hG : GoodL m a rs) (hmax : n ≤ 64) (hm : 1 ≤ m ∧ m ≤ 8) (ha : 0 ≤ a ∧ a < 256) :
  Calls Try.prog 61 #[.agg #[.int .i64 m, .int .u8 a, .slice A n k]] w (HomeEnd a rs w) := by
 have HB := Lib.hid (below_box w #[.int .i64 m, .int .u8 a, .slice A n k] 30)
 have HT := Lib.hid (Blk.new w #[.int .i64 m, .int .u8 a, .slice A n k] 30)
 have HR := Lib.hid (hR.up HB.out)
 have HFT := Lib.hid hR.fit
 have HG := Lib.hid hG
 have HAC := Lib.hid (good_acc hG ha)
 clear hR hG
 go_enter Try.func61, Try.ntmps61
 go_wp2_with fail
 generalize w.alloc (.cells #[.int .i64 m, .int .u8 a, .slice A n k] 30) = V0 at *
 obtain ⟨q, hq⟩ : ∃ q, w.heap.size = q := ⟨_, rfl⟩
 rw [hq] at HT
 simp only [hq]
 have HQ := Lib.hid hq
 clear hq
 refine (rStates_any m a A n k rs V0 hn HR.out HG.out hmax hm).mono ?_
 rintro e w1 ⟨LA, lk, rfl, hst, hb1⟩
 have HT1 : Hid (TB q m a A n k rs w1) := (TB.mk HT.out HR.out).next hb1
 have HB1 : Hid (Below w.heap.size w w1) := below_next HB.out hb1
 have hok := theG_ok HG.out HFT.out hm.1
 have hle := hok.le ⟨by omega, hm.2⟩
 have hfirst := theG_first rs
 have HCL := Lib.hid (theG_clo HG.out HFT.out hm)
 have HSO := Lib.hid hok.1
 have HND := Lib.hid hok.2.1
 have HEND : Hid (∀ (A' : Option Addr) (k' : Nat) (K : List Int) (rank : Nat → Nat) (W : World), HomeS a rs (theG rs).1 K rank → SeqN W W.heap.size A' K → Below w.heap.size w W → HomeEnd a rs w (.returned (.slice A' (theG rs).1.length k')) W) := fun A' k' K rank W h1 h2 h3 => ⟨A', k', K, rank, rfl, h1, h2, h3⟩
 generalize (theG rs).1 = LL at *
 have hpos : 0 < LL.length := (List.getElem?_eq_some_iff.1 hfirst).1
 have HC := Lib.hid hst
 obtain ⟨b, rfl, hbl, _⟩ := hst hpos
 clear hst hok hb1 HT HR HB hfirst
 go_upto_region 2 with fail
 have HO4 : Hid (((w1.alloc (.cells #[] 3)).alloc (.cells #[] 4)).ownsRow w1.heap.size 3 1 (.slice (some ⟨w1.heap.size, 0, none⟩) 0 0) 0 ((List.replicate 0 (-1 : Int)).map (Value.int .i64))) := own_keep (World.ownsRow_lit w1 #[] 0 (Nat.le_refl _) (Nat.zero_le _) rfl) (below_box _ _ _)
 have HO5 : Hid (((w1.alloc (.cells #[] 3)).alloc (.cells #[] 4)).ownsRow w1.heap.size 4 1 (.slice (some ⟨w1.heap.size + 1, 0, none⟩) 0 0) 0 (((LL.take 0).map (accB a)).map Value.bool)) := by
  have := World.ownsRow_lit (base := w1.heap.size) (e := 4) (size := 1) (w1.alloc (.cells #[] 3)) #[] 0 (by simp) (Nat.zero_le _) rfl
  simp only [World.size_alloc] at this
  exact this
 have HB2 : Hid (Below w1.heap.size w1 ((w1.alloc (.cells #[] 3)).alloc (.cells #[] 4))) := (below_box _ _ _).alloc (by simp) _
 generalize (w1.alloc (.cells #[] 3)).alloc (.cells #[] 4) = V at *
 obtain ⟨h, hh⟩ : ∃ h, w1.heap.size = h := ⟨_, rfl⟩
 rw [hh] at HO4 HO5 HB2
 simp only [hh]
 have HH := Lib.hid hh
 clear hh
 obtain ⟨i0, hi, hz0, hz1, hz2⟩ := info_parts info_bool
 obtain ⟨i1, hj1, hy0, hy1, hy2⟩ := info_parts info_int
 go_wp2_with fail
 go_loopw [4, 5, 6] (fun s4 s5 x wr => ∃ (i : Nat), x = .int .i64 i ∧ i ≤ LL.length ∧ wr.ownsRow h 3 1 s4 i ((List.replicate i (-1 : Int)).map (Value.int .i64)) ∧ wr.ownsRow h 4 1 s5 i (((LL.take i).map (accB a)).map Value.bool) ∧ Below h w1 wr) (fun _ _ x _ => LL.length - (intOf x).toNat)
 case atStart => exact ⟨0, rfl, Nat.zero_le _, HO4.out, HO5.out, HB2.out⟩
 case round =>
  clear HO4 HO5 HB2
  obtain ⟨i, rfl, hi1, ho4, ho5, hb⟩ := hrel
  by_cases hlt : i < LL.length
  ·
   have HI := Lib.hid hlt
   have HB0 : Hid (Below h w1 (wr.alloc (.cells #[.int .i64 (-1)] 3))) := hb.alloc (by have := hb.size; have := HH.out; omega) _
   have HO4 : Hid ((wr.alloc (.cells #[.int .i64 (-1)] 3)).ownsRow h 3 1 u4 i ((List.replicate i (-1 : Int)).map (Value.int .i64))) := own_keep ho4 (below_box _ _ _)
   have HO5 : Hid ((wr.alloc (.cells #[.int .i64 (-1)] 3)).ownsRow h 4 1 u5 i (((LL.take i).map (accB a)).map Value.bool)) := own_keep ho5 (below_box _ _ _)
   have hN : Hid (Blk (wr.alloc (.cells #[.int .i64 (-1)] 3)) wr.heap.size 3 [Value.int .i64 (-1)].toArray) := Blk.new _ _ _
   have hsz : h ≤ (wr.alloc (.cells #[.int .i64 (-1)] 3)).heap.size := by have := HB0.out.size; have := HH.out; omega
   clear ho4 ho5 hb
   go_upto_region 5 with fail
   go_wp2_with (at_builtin; refine wpList_append_own (wr.alloc (.cells #[.int .i64 (-1)] 3)) rfl _ _ 43 rfl h 3 i1 (.int .i64 0) 1 8 Try.underlying43 hj1 hy0 hy1 hy2 rfl (by decide) u4 i _ rfl HO4.out ⟨wr.heap.size, 0, none⟩ 1 1 [.int .i64 (-1)] rfl rfl hN.out.news (by simp [Value.oneCell']) (by unfold maxLen; omega) (by omega) hsz ?_)
   intro v6 w6 hown hgr _
   have HO6 : Hid (w6.ownsRow h 3 1 v6 (i + 1) ((List.replicate (i + 1) (-1 : Int)).map (Value.int .i64))) := by
    unfold Hid
    rw [List.replicate_succ', List.map_append, List.map_replicate]; exact hown
   have HP6 := Lib.hid (own_other HO5.out HO4.out hgr (by decide))
   have HB6 : Hid (Below h w1 w6) := HB0.out.grown hgr (by have := HB0.out.size; have := HH.out; omega) (fun g hg => (HO4.out.lt g hg).1)
   clear hown hgr HO4 HO5 HB0 hN hsz
   have HTR := Lib.hid (HT1.out.next (w' := w6) (by rw [HH.out]; exact HB6.out))
   have HCR : Hid (StAt w6 w6.heap.size (some ⟨b, 0, none⟩) LL) := (StAt.keep HC.out (by rw [HH.out]; exact HB6.out)).more (by have := HB6.out.size; omega)
   obtain ⟨b', e', hbb, hc⟩ := HCR.out hpos
   obtain rfl : b = b' := by injection e' with e'; injection e'
   obtain ⟨c0, c1, c2⟩ := hc i hlt
   have HL : Hid (LL[i]? = some (LL[i]'hlt)) := List.getElem?_eq_getElem hlt
   have HSF : Hid ((LL[i]'hlt).fits) := (HSO.out _ (List.getElem_mem hlt)).fit hm.2
   have HNX : Hid (((LL.take (i + 1)).map (accB a)).map Value.bool = ((LL.take i).map (accB a)).map Value.bool ++ [.bool (accB a (LL[i]'hlt))]) := by
    unfold Hid
    rw [List.take_succ_eq_append_getElem hlt, List.map_append, List.map_append]; rfl
   clear hc e'
   generalize LL[i]'hlt = si at *
   obtain ⟨mo, la, ne⟩ := si
   dsimp only at c0 c1 c2
   have hin : (i : Int) < (LL.length : Int) := by omega
   have hi00 : (0 : Int) ≤ (i : Int) := by omega
   go_upto_region 6 with fail
   refine wp_region_head 8 1 (by kernel_rfl) (fun y => (.agg #[.int .i64 m, .int .u8 a, .slice A n k]) :: (.pointer (some ⟨q, 0, none⟩)) :: (.slice none 0 0) :: (.slice (some ⟨b, 0, none⟩) LL.length lk) :: v6 :: u5 :: (.int .i64 ↑i) :: undef :: undef :: undef :: undef :: undef :: undef :: (.agg #[.int .i64 m, .int .u8 a, .slice A n k]) :: (.slice (some ⟨b, 0, none⟩) LL.length lk) :: (.slice (some ⟨h, 0, none⟩) 0 0) :: (.slice (some ⟨h + 1, 0, none⟩) 0 0) :: (.int .i64 ↑i) :: (.slice (some ⟨b, 0, none⟩) LL.length lk) :: (.int .i64 ↑LL.length) :: (.bool true) :: u21 :: u22 :: u4 :: (.slice (some ⟨wr.heap.size, 0, none⟩) 1 1) :: v6 :: y 0 :: y 1 :: y 2 :: y 3 :: y 4 :: y 5 :: y 6 :: y 7 :: u34 :: undef :: undef :: undef :: undef :: undef :: undef :: undef :: undef :: undef :: undef :: undef :: undef :: undef :: undef :: undef :: undef :: undef :: undef :: undef :: undef :: undef :: undef :: undef :: undef :: undef :: undef :: undef :: undef :: undef :: undef :: undef :: undef :: undef :: undef :: undef :: undef :: undef :: undef :: undef :: undef :: undef :: undef :: undef :: undef :: undef :: undef :: undef :: undef :: undef :: undef :: undef :: undef :: [])
    (fun _ w' => Below w6.heap.size w6 w') (phiA u5 (.agg #[.int .i64 m, .int .u8 a, .slice A n k]) (.slice (some ⟨b, 0, none⟩) LL.length lk) (.int .i64 i) (.pointer (some ⟨b, i * 3, none⟩)) (.agg #[.int .i64 mo, .int .i64 la, .int .u8 ne]) (accB a ⟨mo, la, ne⟩)) (fun i => match i with | 0 => u26 | 1 => u27 | 2 => u28 | 3 => u29 | 4 => u30 | 5 => u31 | 6 => u32 | 7 => u33 | _ => undef)
    (by kernel_rfl) (by kernel_rfl) (by kernel_rfl) (by kernel_rfl) ?_ (Below.refl _ _).drew [0, 1, 2, 3, 4, 5, 6, 7] (by kernel_rfl) ?_ ?_
   ·
    intro j v wa wb h hb
    exact phiA_keep hb h
   ·
    refine allCons ?_ (allCons ?_ (allCons ?_ (allCons ?_ (allCons ?_ (allCons ?_ (allCons ?_ (allCons ?_ allNil)))))))
    all_goals intro y w10 K hS hd hK
    ·
     refine wpOp_step rfl (fun K2 hK2 => ?_)
     go_simp
     exact hK2 _ _ (hK _ _ hS rfl (Below.refl _ _))
    ·
     have hS3 := HTR.out.next hS
     have q0 := hS3.t.cell 0
     have q1 := hS3.t.cell 1
     have q2 := hS3.t.cell 2
     simp only [List.getElem?_toArray, List.getElem?_cons_zero, List.getElem?_cons_succ] at q0 q1 q2
     refine wpOp_step rfl (fun K2 hK2 => ?_)
     go_simp
     exact hK2 _ _ (hK _ _ hS rfl (Below.refl _ _))
    ·
     refine wpOp_step rfl (fun K2 hK2 => ?_)
     go_simp
     exact hK2 _ _ (hK _ _ hS rfl (Below.refl _ _))
    ·
     refine wpOp_step rfl (fun K2 hK2 => ?_)
     go_simp
     exact hK2 _ _ (hK _ _ hS rfl (Below.refl _ _))
    ·
     have e2 : y 2 = _ := hd 2 rfl
     have e3 : y 3 = _ := hd 3 rfl
     obtain ⟨y, rfl⟩ := upd_at (y := y) (i := 2) e2
     obtain ⟨y, rfl⟩ := upd_at (y := y) (i := 3) e3
     dsimp [upd]
     refine wpOp_step rfl (fun K2 hK2 => ?_)
     go_simp
     exact hK2 _ _ (hK _ _ hS rfl (Below.refl _ _))
    ·
     have e4 : y 4 = _ := hd 4 rfl
     obtain ⟨y, rfl⟩ := upd_at (y := y) (i := 4) e4
     dsimp [upd]
     have q0 := (hS.cell (p := ⟨b, i * 3, none⟩) hbb).trans c0
     have q1 := (hS.cell (p := ⟨b, i * 3 + 1, none⟩) hbb).trans c1
     have q2 := (hS.cell (p := ⟨b, i * 3 + 2, none⟩) hbb).trans c2
     refine wpOp_step rfl (fun K2 hK2 => ?_)
     go_simp
     exact hK2 _ _ (hK _ _ hS rfl (Below.refl _ _))
    ·
     have e1 : y 1 = _ := hd 1 rfl
     have e5 : y 5 = _ := hd 5 rfl
     obtain ⟨y, rfl⟩ := upd_at (y := y) (i := 1) e1
     obtain ⟨y, rfl⟩ := upd_at (y := y) (i := 5) e5
     dsimp [upd]
     refine wpOp_step rfl (fun K2 hK2 => ?_)
     go_simp
     refine (rAccepts_any m a A n k ⟨mo, la, ne⟩ ha HSF.out w10).mono ?_
     rintro e' w2 ⟨rfl, hb⟩
     rw [HAC.out]
     exact hK2 _ _ (hK _ _ (below_next hS hb) rfl hb)
    ·
     have e6 : y 6 = _ := hd 6 rfl
     obtain ⟨y, rfl⟩ := upd_at (y := y) (i := 6) e6
     dsimp [upd]
     refine wpOp_step rfl (fun K2 hK2 => ?_)
     go_simp
     exact hK2 _ _ (hK _ _ (below_next hS (below_box _ _ _)) ⟨_, rfl, Blk.new _ _ _⟩ (below_box _ _ _))
   ·
    intro y w10 f hS hd
    have e0 : y 0 = _ := hd 0 (by decide)
    obtain ⟨g, e7, hB⟩ := hd 7 (by decide)
    clear hd
    have hO10 : w10.ownsRow h 4 1 u5 i (((LL.take i).map (accB a)).map Value.bool) := own_keep HP6.out hS
    have hB10 : Below h w1 w10 := HB6.out.trans (hS.mono (by have := HB6.out.size; have := HH.out; omega))
    have hs10 : h ≤ w10.heap.size := by have := hB10.size; have := HH.out; omega
    have h1c : ∀ u ∈ [Value.bool (accB a ⟨mo, la, ne⟩)], u.oneCell' = true := by intro u hu; simp at hu; subst hu; rfl
    refine wpAny_one (i := 8) (by kernel_rfl) ?_
    refine wpOp_append_on rfl rfl _ _ 53 rfl h hs10 4 i0 (.bool false) 1 1 Try.underlying53 hi hz0 hz1 hz2 rfl (by decide) u5 i _ e0 hO10 ⟨g, 0, none⟩ 1 1 [.bool (accB a ⟨mo, la, ne⟩)] e7 rfl hB.news h1c (by unfold maxLen; omega) (by omega) ?_
    intro v11 w11 hown hgr _
    rw [← HNX.out] at hown
    have HO11 := Lib.hid hown
    have HO411 := Lib.hid (own_other (own_keep HO6.out hS) hO10 hgr (by decide))
    have HB11 : Hid (Below h w1 w11) := hB10.grown hgr (by have := hB10.size; have := HH.out; omega) (fun g hg => (hO10.lt g hg).1)
    clear hown hgr hO10 hB10 hs10 h1c hB
    refine wpAny_one (i := 9) (by kernel_rfl) ?_
    refine wpOp_step rfl (fun K2 hK2 => ?_)
    go_simp
    refine hK2 _ _ ?_
    clear hK2 K2 e0 e7
    refine wpAny_done (by kernel_rfl) ?_ _
    go_wp2_with fail
    exact ⟨⟨i + 1, by go_num, HI.out, HO411.out, HO11.out, HB11.out⟩, by have := HI.out; simp [intOf]; omega⟩
  ·
   have hie : i = LL.length := by omega
   subst hie
   have HO4 : Hid (wr.ownsRow h 3 1 u4 LL.length ((List.replicate LL.length (-1 : Int)).map (Value.int .i64))) := ho4
   rw [List.take_length] at ho5
   have HO5 : Hid (wr.ownsRow h 4 1 u5 LL.length ((LL.map (accB a)).map Value.bool)) := ho5
   have HB := Lib.hid hb
   clear ho4 ho5 hb hi1 hlt
   go_wp2_with fail
   go_loopg [5, 7] ((LL.map (accB a)).count false + 1) (fun gk s5 s7 wx => ∃ (N : List Bool) (K : List Int) (rank : Nat → Nat) (r : Nat) (g : Bool), gk = N.count false + (if g then 1 else 0) ∧ s7 = .bool g ∧ HomeI a rs LL N K rank r ∧ (g = false → ∀ i, i < LL.length → ClosedAt rs LL N i) ∧ wx.ownsRow h 3 1 u4 LL.length (K.map (Value.int .i64)) ∧ wx.ownsRow h 4 1 s5 LL.length (N.map Value.bool) ∧ Below h w1 wx)
   case atStart => exact ⟨_, _, _, 0, true, rfl, rfl, home_start, fun h => (by cases h), HO4.out, HO5.out, HB.out⟩
   case round =>
    clear HO4 HO5 HB
    obtain ⟨N, K, rank, r, g, hgk, rfl, hhm, hcl, ho4, ho5, hb⟩ := hrel
    obtain ⟨NA, k5, rfl⟩ := own_shape ho5
    have hN0 : 0 < N.length := by rw [hhm.nlen]; exact hpos
    obtain ⟨nb, rfl, hnb, _⟩ := own_cells ho5 (j := 0) (x := .bool N[0]) (by rw [List.getElem?_map, List.getElem?_eq_getElem hN0]; rfl)
    have hK0 : 0 < K.length := by rw [hhm.klen]; exact hpos
    obtain ⟨KA, k4, rfl⟩ := own_shape ho4
    obtain ⟨ob, rfl, hob, _⟩ := own_cells ho4 (j := 0) (x := .int .i64 K[0]) (by rw [List.getElem?_map, List.getElem?_eq_getElem hK0]; rfl)
    have HHM := Lib.hid hhm
    have HO4 := Lib.hid ho4
    have HO5 := Lib.hid ho5
    have HB := Lib.hid hb
    clear hhm ho4 ho5 hb
    cases g with
    | false =>
     have HE2 : Hid (HomeEnd a rs w (.returned (.slice (some ⟨ob, 0, none⟩) LL.length k4)) wr) := by
      refine HEND.out _ k4 K rank wr (HHM.out.done (hcl rfl) HCL.out) ?_ (HB1.out.trans (HB.out.mono (by have := HB1.out.size; have := HH.out; omega)))
      have hl := HHM.out.klen
      have ho := HO4.out
      rw [← hl] at ho
      exact own_seqN ho
     go_wp2_with fail
     go_ret
     exact HE2.out
    | true =>
     clear hcl
     have HGK : Hid (gk = N.count false + 1) := hgk
     clear hgk
     have HO4a : Hid ((wr.alloc (.cells #[] 4)).ownsRow h 3 1 (.slice (some ⟨ob, 0, none⟩) LL.length k4) LL.length (K.map (Value.int .i64))) := own_keep HO4.out (below_box _ _ _)
     have HO5a : Hid ((wr.alloc (.cells #[] 4)).ownsRow h 4 1 (.slice (some ⟨nb, 0, none⟩) LL.length k5) LL.length (N.map Value.bool)) := own_keep HO5.out (below_box _ _ _)
     have HO8a : Hid ((wr.alloc (.cells #[] 4)).ownsRow h 4 1 (.slice (some ⟨wr.heap.size, 0, none⟩) 0 0) 0 []) := World.ownsRow_lit wr #[] 0 (by have := HB.out.size; have := HH.out; omega) (Nat.zero_le _) rfl
     have HBa : Hid (Below h w1 (wr.alloc (.cells #[] 4))) := HB.out.alloc (by have := HB.out.size; have := HH.out; omega) _
     have hsz : h ≤ (wr.alloc (.cells #[] 4)).heap.size := by have := HBa.out.size; have := HH.out; omega
     have hnw : ∀ (j : Nat) (u : Value), (N.map Value.bool)[j]? = some u → (wr.alloc (.cells #[] 4)).cell? ((⟨nb, 0, none⟩ : Addr).add j) = some u := fun j u hu => by
      obtain ⟨b', e', _, hc⟩ := own_cells HO5a.out hu
      injection e' with e'
      injection e' with e'
      subst e'
      rw [add_zero_addr]; exact hc
     have h1c : ∀ u ∈ N.map Value.bool, u.oneCell' = true := by
      intro u hu
      obtain ⟨v, _, rfl⟩ := List.mem_map.1 hu
      rfl
     have hnl : (N.map Value.bool).length = LL.length * 1 := by rw [List.length_map, HHM.out.nlen, Nat.mul_one]
     clear HO4 HO5 HB
     go_upto_region 10 with fail
     go_wp2_with (at_builtin; refine wpList_append_own_at (wr.alloc (.cells #[] 4)) rfl _ _ 53 rfl h 4 i0 (.bool false) 1 1 Try.underlying53 hi hz0 hz1 hz2 rfl (by decide) (.slice (some ⟨wr.heap.size, 0, none⟩) 0 0) 0 _ rfl HO8a.out ⟨nb, 0, none⟩ LL.length k5 (N.map Value.bool) rfl hnl hnw h1c (by unfold maxLen; omega) (by omega) hsz ?_)
     intro v8 w8 hown hgr _ hloc
     have hown' : w8.ownsRow h 4 1 v8 LL.length (N.map Value.bool) := hown
     obtain ⟨RA, k8, rfl⟩ := own_shape hown'
     obtain ⟨rb, rfl, hrb, _⟩ := own_cells hown' (j := 0) (x := .bool N[0]) (by rw [List.getElem?_map, List.getElem?_eq_getElem hN0]; rfl)
     have hne : rb ≠ nb := by
      intro e
      rcases hloc with e2 | e2
      ·
       have : rb = wr.heap.size := by injection e2
       omega
      ·
       have : rb = wr.heap.size + 1 := by injection e2
       omega
     have HO4 := Lib.hid (own_other HO4a.out HO8a.out hgr (by decide))
     have HO5 : Hid (w8.ownsRow h 4 1 (.slice (some ⟨nb, 0, none⟩) LL.length k5) LL.length (N.map Value.bool)) := own_move HO5a.out fun b' hb' => by
      have e1 : nb = b' := by injection hb'
      subst e1
      refine hgr.block nb (by simp; omega) (fun e => ?_)
      have : wr.heap.size = nb := by injection e with e; exact e.symm
      omega
     have HO8 := Lib.hid hown'
     have HB : Hid (Below h w1 w8) := HBa.out.grown hgr (by have := HBa.out.size; have := HH.out; omega) (fun g hg => (HO8a.out.lt g hg).1)
     clear hown hown' hgr hloc HO4a HO5a HO8a HBa hsz hnw h1c hnl hnb hob hrb
     generalize wr.heap.size = zz at *
     go_wp2_with fail
     go_loopw [7, 9] (fun s7 x wx => ∃ (i : Nat) (R2 : List Bool) (K2 : List Int) (g2 : Bool), x = .int .i64 i ∧ s7 = .bool g2 ∧ i ≤ LL.length ∧ RingI rs LL N K R2 K2 ∧ (g2 = true → R2.count false < N.count false) ∧ (g2 = false → R2 = N ∧ ∀ c, c < i → ClosedAt rs LL N c) ∧ wx.ownsRow h 3 1 (.slice (some ⟨ob, 0, none⟩) LL.length k4) LL.length (K2.map (Value.int .i64)) ∧ wx.ownsRow h 4 1 (.slice (some ⟨nb, 0, none⟩) LL.length k5) LL.length (N.map Value.bool) ∧ wx.ownsRow h 4 1 (.slice (some ⟨rb, 0, none⟩) LL.length k8) LL.length (R2.map Value.bool) ∧ Below h w1 wx) (fun _ x _ => LL.length - (intOf x).toNat)
     case atStart => exact ⟨0, N, K, false, rfl, rfl, Nat.zero_le _, HHM.out.ring, fun h => (by cases h), fun _ => ⟨rfl, fun c hc => by omega⟩, HO4.out, HO5.out, HO8.out, HB.out⟩
     case round =>
      clear HO4 HO5 HO8 HB
      obtain ⟨i, R2, K2, g2, rfl, rfl, hi1, hrg, hgt, hgf, ho4, ho5, ho8, hb⟩ := hrel
      have HRG := Lib.hid hrg
      have HGT := Lib.hid hgt
      have HGF := Lib.hid hgf
      have HO4 := Lib.hid ho4
      have HO5 := Lib.hid ho5
      have HO8 := Lib.hid ho8
      have HB := Lib.hid hb
      clear hrg hgt hgf ho4 ho5 ho8 hb
      by_cases hlt : i < LL.length
      ·
       have HI := Lib.hid hlt
       have HLI : Hid (LL[i]? = some (LL[i]'hlt)) := List.getElem?_eq_getElem hlt
       have HSF : Hid ((LL[i]'hlt).fits) := (HSO.out _ (List.getElem_mem hlt)).fit hm.2
       generalize LL[i]'hlt = si at *
       obtain ⟨mo, la, ne⟩ := si
       go_wp2_with fail
       go_loopw [7, 10] (fun s7 x wx => ∃ (kk : Nat) (R3 : List Bool) (K3 : List Int) (g3 : Bool), x = .int .i64 kk ∧ s7 = .bool g3 ∧ kk ≤ n ∧ RingI rs LL N K R3 K3 ∧ (g3 = true → R3.count false < N.count false) ∧ (g3 = false → R3 = N ∧ (∀ c, c < i → ClosedAt rs LL N c) ∧ ∀ k' : Nat, k' < kk → (stepS rs ⟨mo, la, ne⟩ k').2 = true → ∀ j : Nat, LL[j]? = some (stepS rs ⟨mo, la, ne⟩ k').1 → N[j]? = some true → N[i]? = some true) ∧ wx.ownsRow h 3 1 (.slice (some ⟨ob, 0, none⟩) LL.length k4) LL.length (K3.map (Value.int .i64)) ∧ wx.ownsRow h 4 1 (.slice (some ⟨nb, 0, none⟩) LL.length k5) LL.length (N.map Value.bool) ∧ wx.ownsRow h 4 1 (.slice (some ⟨rb, 0, none⟩) LL.length k8) LL.length (R3.map Value.bool) ∧ Below h w1 wx) (fun _ x _ => n - (intOf x).toNat)
       case atStart => exact ⟨0, R2, K2, g2, rfl, rfl, Nat.zero_le _, HRG.out, HGT.out, fun h => ⟨(HGF.out h).1, (HGF.out h).2, fun k' h => by omega⟩, HO4.out, HO5.out, HO8.out, HB.out⟩
       case round =>
        clear HO4 HO5 HO8 HB HRG HGT HGF
        obtain ⟨kk, R3, K3, g3, rfl, rfl, hk1, hrg, hgt, hgf, ho4, ho5, ho8, hb⟩ := hrel
        have hR3 : i < R3.length := by rw [hrg.rlen]; exact hlt
        obtain ⟨b', e', _, hrc⟩ := own_cells ho8 (j := i) (x := .bool (R3[i]'hR3)) (by rw [List.getElem?_map, List.getElem?_eq_getElem hR3]; rfl)
        obtain rfl : rb = b' := by injection e' with e'; injection e'
        have HRI : Hid (R3[i]? = some (R3[i]'hR3)) := List.getElem?_eq_getElem hR3
        have HRG := Lib.hid hrg
        have HGT := Lib.hid hgt
        have HGF := Lib.hid hgf
        have HO4 := Lib.hid ho4
        have HO5 := Lib.hid ho5
        have HO8 := Lib.hid ho8
        have HB := Lib.hid hb
        have HTR := Lib.hid (HT1.out.next (w' := wr) (by rw [HH.out]; exact hb))
        have HCR : Hid (StAt wr wr.heap.size (some ⟨b, 0, none⟩) LL) := (StAt.keep HC.out (by rw [HH.out]; exact hb)).more (by have := hb.size; omega)
        clear hrg hgt hgf ho4 ho5 ho8 hb e'
        generalize R3[i]'hR3 = ri at *
        have t2 := HTR.out.t.cell 2
        simp only [List.getElem?_toArray, List.getElem?_cons_zero, List.getElem?_cons_succ] at t2
        have hin : (i : Int) < (LL.length : Int) := by omega
        have hi00 : (0 : Int) ≤ (i : Int) := by omega
        by_cases hlk : kk < n
        ·
         have HK := Lib.hid hlk
         cases ri with
         | true =>
          have HCA : Hid (g3 = false → R3 = N ∧ ∀ c, c < i + 1 → ClosedAt rs LL N c) := fun hg => by
           obtain ⟨e1, e2, _⟩ := HGF.out hg
           refine ⟨e1, fun c hc => ?_⟩
           rcases Nat.lt_or_ge c i with g | g
           ·
            exact e2 c g
           ·
            obtain rfl : c = i := by omega
            intro s _ k' _ _ j _ _
            rw [← e1]; exact HRI.out
          go_wp2_with fail
          exact ⟨⟨i + 1, R3, K3, g3, by go_num, rfl, HI.out, HRG.out, HGT.out, HCA.out, HO4.out, HO5.out, HO8.out, HB.out⟩, by have := HI.out; simp [intOf]; omega⟩
         | false =>
          obtain ⟨b', e', hbb, hc⟩ := HCR.out hpos
          obtain rfl : b = b' := by injection e' with e'; injection e'
          obtain ⟨c0, c1, c2⟩ := hc i hlt
          rw [(List.getElem?_eq_some_iff.1 HLI.out).2] at c0 c1 c2
          dsimp only at c0 c1 c2
          obtain ⟨sr, hsr⟩ : ∃ sr, stepS rs ⟨mo, la, ne⟩ kk = sr := ⟨_, rfl⟩
          have HSE := Lib.hid hsr
          clear hsr hc e'
          obtain ⟨⟨ta, tb, tc⟩, okb⟩ := sr
          go_upto_region 17 with fail
          refine wp_region_mid2 12 0 (by kernel_rfl) (fun y => (.agg #[.int .i64 m, .int .u8 a, .slice A n k]) :: (.pointer (some ⟨q, 0, none⟩)) :: (.slice none 0 0) :: (.slice (some ⟨b, 0, none⟩) LL.length lk) :: (.slice (some ⟨ob, 0, none⟩) LL.length k4) :: (.slice (some ⟨nb, 0, none⟩) LL.length k5) :: (.int .i64 ↑LL.length) :: (.bool g3) :: (.slice (some ⟨rb, 0, none⟩) LL.length k8) :: (.int .i64 ↑i) :: (.int .i64 ↑kk) :: y 10 :: u12 :: (.agg #[.int .i64 m, .int .u8 a, .slice A n k]) :: (.slice (some ⟨b, 0, none⟩) LL.length lk) :: (.slice (some ⟨h, 0, none⟩) 0 0) :: (.slice (some ⟨h + 1, 0, none⟩) 0 0) :: (.int .i64 ↑LL.length) :: (.slice (some ⟨b, 0, none⟩) LL.length lk) :: (.int .i64 ↑LL.length) :: (.bool false) :: u21 :: u22 :: u23 :: u24 :: u25 :: u26 :: u27 :: u28 :: u29 :: u30 :: u31 :: u32 :: u33 :: u34 :: (.bool true) :: (.slice (some ⟨zz, 0, none⟩) 0 0) :: (.slice (some ⟨nb, 0, none⟩) LL.length k5) :: (.slice (some ⟨rb, 0, none⟩) LL.length k8) :: (.int .i64 ↑i) :: (.slice (some ⟨b, 0, none⟩) LL.length lk) :: (.int .i64 ↑LL.length) :: (.bool true) :: u43 :: u44 :: (.int .i64 ↑kk) :: (.pointer (some ⟨q, 2, none⟩)) :: (.slice A n k) :: (.int .i64 ↑n) :: (.bool true) :: (.bool true) :: (.slice (some ⟨rb, 0, none⟩) LL.length k8) :: (.int .i64 ↑i) :: (.pointer (some ⟨rb, i, none⟩)) :: (.bool false) :: (.bool true) :: (.bool true) :: u57 :: u58 :: y 7 :: y 0 :: y 1 :: y 2 :: y 3 :: y 4 :: y 5 :: y 6 :: y 8 :: y 9 :: u69 :: u70 :: u71 :: u72 :: u73 :: u74 :: u75 :: u76 :: u77 :: u78 :: u79 :: u80 :: u81 :: u82 :: u83 :: u84 :: u85 :: undef :: []) (stS wr ((⟨ta, tb, tc⟩, okb) : St × Bool).1) (phiS wr (.agg #[.int .i64 m, .int .u8 a, .slice A n k]) (.slice (some ⟨b, 0, none⟩) LL.length lk) (.int .i64 i) (.pointer (some ⟨b, i * 3, none⟩)) (.agg #[.int .i64 mo, .int .i64 la, .int .u8 ne]) (.int .i64 kk) ((⟨ta, tb, tc⟩, okb) : St × Bool)) (fun i => match i with | 0 => u60 | 1 => u61 | 2 => u62 | 3 => u63 | 4 => u64 | 5 => u65 | 6 => u66 | 7 => u59 | 8 => u67 | 9 => u68 | 10 => u11 | _ => undef)
           (by kernel_rfl) (by kernel_rfl) (by kernel_rfl) (by kernel_rfl) ?_ [0, 1, 2, 3, 4, 5, 6, 7, 8, 9, 10, 11] (by kernel_rfl) ?_ ?_
          ·
           exact ⟨(Below.refl _ _).drew, fun h => by cases h⟩
          ·
           refine allCons ?_ (allCons ?_ (allCons ?_ (allCons ?_ (allCons ?_ (allCons ?_ (allCons ?_ (allCons ?_ (allCons ?_ (allCons ?_ (allCons ?_ (allCons ?_ allNil)))))))))))
           all_goals intro bl y w10 K3 hbi hS hd hK3
           ·
            have hS3 := HTR.out.next hS.1
            have q0 := hS3.t.cell 0
            have q1 := hS3.t.cell 1
            have q2 := hS3.t.cell 2
            simp only [List.getElem?_toArray, List.getElem?_cons_zero, List.getElem?_cons_succ] at q0 q1 q2
            refine wpOp_step rfl (fun K2 hK2 => ?_)
            go_simp
            exact hK2 _ _ (hK3 _ _ (stS_same hS (by decide) (Below.refl _ _)) rfl (fun _ _ h => h))
           ·
            refine wpOp_step rfl (fun K2 hK2 => ?_)
            go_simp
            exact hK2 _ _ (hK3 _ _ (stS_same hS (by decide) (Below.refl _ _)) rfl (fun _ _ h => h))
           ·
            refine wpOp_step rfl (fun K2 hK2 => ?_)
            go_simp
            exact hK2 _ _ (hK3 _ _ (stS_same hS (by decide) (Below.refl _ _)) rfl (fun _ _ h => h))
           ·
            have e1 : y 1 = _ := (hd 1 rfl).2
            have e2 : y 2 = _ := (hd 2 rfl).2
            obtain ⟨y, rfl⟩ := upd_at (y := y) (i := 1) e1
            obtain ⟨y, rfl⟩ := upd_at (y := y) (i := 2) e2
            dsimp [upd]
            refine wpOp_step rfl (fun K2 hK2 => ?_)
            go_simp
            exact hK2 _ _ (hK3 _ _ (stS_same hS (by decide) (Below.refl _ _)) rfl (fun _ _ h => h))
           ·
            have e3 : y 3 = _ := (hd 3 rfl).2
            obtain ⟨y, rfl⟩ := upd_at (y := y) (i := 3) e3
            dsimp [upd]
            have q0 := (hS.1.cell (p := ⟨b, i * 3, none⟩) hbb).trans c0
            have q1 := (hS.1.cell (p := ⟨b, i * 3 + 1, none⟩) hbb).trans c1
            have q2 := (hS.1.cell (p := ⟨b, i * 3 + 2, none⟩) hbb).trans c2
            refine wpOp_step rfl (fun K2 hK2 => ?_)
            go_simp
            exact hK2 _ _ (hK3 _ _ (stS_same hS (by decide) (Below.refl _ _)) rfl (fun _ _ h => h))
           ·
            refine wpOp_step rfl (fun K2 hK2 => ?_)
            go_simp
            exact hK2 _ _ (hK3 _ _ (stS_same hS (by decide) (Below.refl _ _)) rfl (fun _ _ h => h))
           ·
            have e0 : y 0 = _ := (hd 0 rfl).2
            have e4 : y 4 = _ := (hd 4 rfl).2
            have e5 : y 5 = _ := (hd 5 rfl).2
            obtain ⟨y, rfl⟩ := upd_at (y := y) (i := 0) e0
            obtain ⟨y, rfl⟩ := upd_at (y := y) (i := 4) e4
            obtain ⟨y, rfl⟩ := upd_at (y := y) (i := 5) e5
            dsimp [upd]
            have hS3 := HTR.out.next hS.1
            refine wpOp_step rfl (fun K2 hK2 => ?_)
            go_simp
            refine (rStep_any m a A n k rs ⟨mo, la, ne⟩ kk hn HSF.out (by omega) w10 hS3.r).mono ?_
            rw [HSE.out]
            rintro e' w2 ⟨rfl, hb⟩
            exact hK2 _ _ (hK3 _ _ (stS_same hS (by decide) hb) rfl (fun _ _ h => phiS_below hb h))
           ·
            have e6 : y 6 = _ := (hd 6 rfl).2
            obtain ⟨y, rfl⟩ := upd_at (y := y) (i := 6) e6
            dsimp [upd]
            refine wpOp_step rfl (fun K2 hK2 => ?_)
            go_simp
            exact hK2 _ _ (hK3 _ _ (stS_same hS (by decide) (Below.refl _ _)) rfl (fun _ _ h => h))
           ·
            have e7 : y 7 = _ := (hd 7 rfl).2
            obtain ⟨y, rfl⟩ := upd_at (y := y) (i := 7) e7
            dsimp [upd]
            refine wpOp_step rfl (fun K2 hK2 => ?_)
            go_simp
            exact hK2 _ _ (hK3 _ _ (stS_same hS (by decide) (Below.refl _ _)) rfl (fun _ _ h => h))
           ·
            have e7 : y 7 = _ := (hd 7 rfl).2
            obtain ⟨y, rfl⟩ := upd_at (y := y) (i := 7) e7
            dsimp [upd]
            refine wpOp_step rfl (fun K2 hK2 => ?_)
            go_simp
            exact hK2 _ _ (hK3 _ _ (stS_same hS (by decide) (Below.refl _ _)) rfl (fun _ _ h => h))
           ·
            refine wpOp_step rfl (fun K2 hK2 => ?_)
            go_simp
            exact hK2 _ _ (hK3 _ _ (stS_alloc hS hbi _) ⟨_, rfl, hS.1.size, _, _, _, Blk.new _ _ _⟩ (fun _ _ h => phiS_below (below_box _ _ _) h))
           ·
            have e8 : y 8 = .agg #[.int .i64 ((⟨ta, tb, tc⟩, okb) : St × Bool).1.mode, .int .i64 ((⟨ta, tb, tc⟩, okb) : St × Bool).1.last, .int .u8 ((⟨ta, tb, tc⟩, okb) : St × Bool).1.need] := (hd 8 rfl).2
            obtain ⟨hb10, g, e10, hg, za, zb, zc, hB⟩ := hd 10 rfl
            have hS2 := stS_store (v := undef) hS hb10 e10 hg hB
            obtain ⟨y, rfl⟩ := upd_at (y := y) (i := 8) e8
            obtain ⟨y, rfl⟩ := upd_at (y := y) (i := 10) e10
            dsimp [upd]
            have d0 := hB.cell 0
            have d1 := hB.cell 1
            have d2 := hB.cell 2
            have f0 := hB.free 0
            have f1 := hB.free 1
            have f2 := hB.free 2
            simp only [List.getElem?_toArray, List.getElem?_cons_zero, List.getElem?_cons_succ] at d0 d1 d2
            refine wpOp_step rfl (fun K2 hK2 => ?_)
            go_simp
            exact hK2 _ _ (hK3 undef _ hS2 trivial (fun _ _ hφ => phiS_store hφ))
          ·
           intro bl y w10 f hall hS hd
           have e9 : y 9 = _ := hd 9 (by decide)
           obtain ⟨_, g10, e10, hg10, hB10⟩ := hS.2 (hall 11 (by decide))
           have hb10 := hS.1
           clear hd hall hS
           obtain ⟨y, rfl⟩ := upd_at (y := y) (i := 9) e9
           obtain ⟨y, rfl⟩ := upd_at (y := y) (i := 10) e10
           dsimp [upd]
           refine wpAny_one (i := 12) (by kernel_rfl) ?_
           refine wpOp_step rfl (fun K2 hK2 => ?_)
           go_simp
           refine hK2 _ _ ?_
           clear hK2 K2 e9 e10
           refine wpAny_done (by kernel_rfl) ?_ _
           have HO4a := Lib.hid (own_keep HO4.out hb10)
           have HO5a := Lib.hid (own_keep HO5.out hb10)
           have HO8a := Lib.hid (own_keep HO8.out hb10)
           have HB10 : Hid (Below h w1 w10) := HB.out.trans (hb10.mono (by have := HB.out.size; have := HH.out; omega))
           have HC10 : Hid (StAt w10 w10.heap.size (some ⟨b, 0, none⟩) LL) := (HCR.out.keep hb10).more hb10.size
           have d0 := hB10.cell 0
           have d1 := hB10.cell 1
           have d2 := hB10.cell 2
           simp only [List.getElem?_toArray, List.getElem?_cons_zero, List.getElem?_cons_succ] at d0 d1 d2
           clear hb10 hB10 hg10 c0 c1 c2 HTR HCR HO4 HO5 HO8 HB t2 hbb hrc
           cases okb with
           | false =>
            have HGN : Hid (g3 = false → R3 = N ∧ (∀ c, c < i → ClosedAt rs LL N c) ∧ ∀ k' : Nat, k' < kk + 1 → (stepS rs ⟨mo, la, ne⟩ k').2 = true → ∀ j : Nat, LL[j]? = some (stepS rs ⟨mo, la, ne⟩ k').1 → N[j]? = some true → N[i]? = some true) := fun hg => by
             obtain ⟨e1, e2, e3⟩ := HGF.out hg
             refine ⟨e1, e2, fun k' hk' h2 j hj hr => ?_⟩
             rcases Nat.lt_or_ge k' kk with g | g
             ·
              exact e3 k' g h2 j hj hr
             ·
              obtain rfl : k' = kk := by omega
              rw [HSE.out] at h2; cases h2
            go_wp2_with fail
            exact ⟨⟨kk + 1, R3, K3, g3, by go_num, rfl, HK.out, HRG.out, HGT.out, HGN.out, HO4a.out, HO5a.out, HO8a.out, HB10.out⟩, by have := HK.out; simp [intOf]; omega⟩
           | true =>
            have hmem : (⟨ta, tb, tc⟩ : St) ∈ LL := by
             have := HCL.out i _ HI.out HLI.out kk (by rw [hn]; exact HK.out) (by rw [HSE.out])
             rwa [HSE.out] at this
            obtain ⟨px, hpx, hpl⟩ := idx_mem hmem
            have hpl2 := (List.getElem?_eq_some_iff.1 hpl).1
            have HPL := Lib.hid hpl
            go_wp2_with fail
            refine (index_st (some ⟨b, 0, none⟩) LL.length lk LL ⟨ta, tb, tc⟩ w10 rfl HC10.out (by omega)).mono ?_
            rintro e w12 ⟨rfl, hb12⟩
            rw [hpx]
            have HO4b := Lib.hid (own_keep HO4a.out hb12)
            have HO5b := Lib.hid (own_keep HO5a.out hb12)
            have HO8b := Lib.hid (own_keep HO8a.out hb12)
            have HB12 : Hid (Below h w1 w12) := HB10.out.trans (hb12.mono (by have := HB10.out.size; have := HH.out; omega))
            have hp3 : px < N.length := by rw [HHM.out.nlen]; exact hpl2
            have HNP : Hid (N[px]? = some (N[px]'hp3)) := List.getElem?_eq_getElem hp3
            obtain ⟨b', e', _, hpc⟩ := own_cells HO5b.out (j := px) (x := .bool (N[px]'hp3)) (by rw [List.getElem?_map, List.getElem?_eq_getElem hp3]; rfl)
            obtain rfl : nb = b' := by injection e' with e'; injection e'
            obtain ⟨b', e'', _, hic⟩ := own_cells HO8b.out (j := i) (x := .bool false) (by rw [List.getElem?_map, HRI.out]; rfl)
            obtain rfl : rb = b' := by injection e'' with e''; injection e''
            have hk3 : i < K3.length := by rw [HRG.out.klen]; exact HI.out
            obtain ⟨b', e3, _, hkc⟩ := own_cells HO4b.out (j := i) (x := .int .i64 (K3[i]'hk3)) (by rw [List.getElem?_map, List.getElem?_eq_getElem hk3]; rfl)
            obtain rfl : ob = b' := by injection e3 with e3; injection e3
            generalize N[px]'hp3 = bq at *
            have hp0 : (0 : Int) ≤ (px : Int) := by omega
            have hp1 : (px : Int) < (LL.length : Int) := by omega
            clear hb12 HO4a HO5a HO8a HB10 HC10 d0 d1 d2 hpx hmem hpl e' e'' e3
            cases bq with
            | false =>
             have HGN : Hid (g3 = false → R3 = N ∧ (∀ c, c < i → ClosedAt rs LL N c) ∧ ∀ k' : Nat, k' < kk + 1 → (stepS rs ⟨mo, la, ne⟩ k').2 = true → ∀ j : Nat, LL[j]? = some (stepS rs ⟨mo, la, ne⟩ k').1 → N[j]? = some true → N[i]? = some true) := fun hg => by
              obtain ⟨e1, e2, e3⟩ := HGF.out hg
              refine ⟨e1, e2, fun k' hk' h2 j hj hr => ?_⟩
              rcases Nat.lt_or_ge k' kk with g | g
              ·
               exact e3 k' g h2 j hj hr
              ·
               obtain rfl : k' = kk := by omega
               rw [HSE.out] at hj
               have h5 := nodup_idx HND.out hj
               have h6 := nodup_idx HND.out HPL.out
               have : j = px := by dsimp only at h5; omega
               rw [this, HNP.out] at hr
               cases hr
             clear hic hkc
             go_wp2_with fail
             exact ⟨⟨kk + 1, R3, K3, g3, by go_num, rfl, HK.out, HRG.out, HGT.out, HGN.out, HO4b.out, HO5b.out, HO8b.out, HB12.out⟩, by have := HK.out; simp [intOf]; omega⟩
            | true =>
             have HRN : Hid (RingI rs LL N K (R3.set i true) (K3.set i (kk : Int))) := HRG.out.set HLI.out HRI.out ⟨by rw [hn]; exact HK.out, by rw [HSE.out], by rw [HSE.out]; exact HPL.out⟩ HNP.out
             have HCN : Hid ((R3.set i true).count false < N.count false) := by
              have h1 := cnt_set HRI.out
              unfold Hid
              cases hg : g3 with
              | true => have := HGT.out hg; omega
              | false => have := (HGF.out hg).1; rw [this] at h1 ⊢; exact h1
             obtain ⟨cur8, hcur8⟩ := own_blk HO8b.out rfl
             obtain ⟨cur4, hcur4⟩ := own_blk HO4b.out rfl
             have hro : rb ≠ ob := fun e => own_ne3 HO8b.out hcur4 (by decide) (by rw [e]; rfl)
             have hno : nb ≠ ob := fun e => own_ne3 HO5b.out hcur4 (by decide) (by rw [e]; rfl)
             have f8 := hcur8.free i
             have f4 := hcur4.free i
             have HO8n : Hid (((w12.setCell ⟨rb, i, none⟩ (.bool true)).setCell ⟨ob, i, none⟩ (.int .i64 kk)).ownsRow h 4 1 (.slice (some ⟨rb, 0, none⟩) LL.length k8) LL.length ((R3.map Value.bool).set i (.bool true))) := own_setO (own_setAt HO8b.out HI.out (.bool true)) hro _
             have HO4n : Hid (((w12.setCell ⟨rb, i, none⟩ (.bool true)).setCell ⟨ob, i, none⟩ (.int .i64 kk)).ownsRow h 3 1 (.slice (some ⟨ob, 0, none⟩) LL.length k4) LL.length ((K3.map (Value.int .i64)).set i (.int .i64 kk))) := own_setAt (own_setO HO4b.out hro.symm _) HI.out _
             have HO5n : Hid (((w12.setCell ⟨rb, i, none⟩ (.bool true)).setCell ⟨ob, i, none⟩ (.int .i64 kk)).ownsRow h 4 1 (.slice (some ⟨nb, 0, none⟩) LL.length k5) LL.length (N.map Value.bool)) := own_setO (own_setO HO5b.out hne.symm _) hno _
             have HB13 : Hid (Below h w1 ((w12.setCell ⟨rb, i, none⟩ (.bool true)).setCell ⟨ob, i, none⟩ (.int .i64 kk))) := (HB12.out.setCell (HO8b.out.lt rb rfl).1 _).setCell (HO4b.out.lt ob rfl).1 _
             have hor := hro.symm
             clear hcur8 hcur4
             go_wp2_with fail
             exact ⟨⟨kk + 1, R3.set i true, K3.set i kk, true, by go_num, rfl, HK.out, HRN.out, fun _ => HCN.out, fun h => (by cases h), by rw [List.map_set]; exact HO4n.out, HO5n.out, by rw [List.map_set]; exact HO8n.out, HB13.out⟩, by have := HK.out; simp [intOf]; omega⟩
        ·
         have hkn : kk = n := by omega
         have HCA : Hid (g3 = false → R3 = N ∧ ∀ c, c < i + 1 → ClosedAt rs LL N c) := fun hg => by
          obtain ⟨e1, e2, e3⟩ := HGF.out hg
          refine ⟨e1, fun c hc => ?_⟩
          rcases Nat.lt_or_ge c i with g | g
          ·
           exact e2 c g
          ·
           obtain rfl : c = i := by omega
           intro s hs k' hk' h2 j hj hr
           rw [HLI.out] at hs
           cases hs
           exact e3 k' (by rw [hkn, ← hn]; exact hk') h2 j hj hr
         go_wp2_with fail
         exact ⟨⟨i + 1, R3, K3, g3, by go_num, rfl, HI.out, HRG.out, HGT.out, HCA.out, HO4.out, HO5.out, HO8.out, HB.out⟩, by have := HI.out; simp [intOf]; omega⟩
      ·
       have hie : i = LL.length := by omega
       obtain ⟨rank', hnx⟩ := RingI.next HHM.out HRG.out
       have HNX := Lib.hid hnx
       clear hnx
       go_wp2_with fail
       go_roundg (R2.count false + (if g2 then 1 else 0))
       case measure =>
        have := HGK.out
        cases g2 with
        | true => have := HGT.out rfl; simp; omega
        | false => have := (HGF.out rfl).1; subst this; simp; omega
       case rel =>
        exact ⟨R2, K2, rank', r + 1, g2, rfl, rfl, HNX.out, fun hg i' hi' => by
         obtain ⟨e1, e2⟩ := HGF.out hg
         rw [e1]; exact e2 i' (by omega), HO4.out, HO8.out, HB.out⟩
end Go.Proofs.Ytpkdlljefkbmpaa
