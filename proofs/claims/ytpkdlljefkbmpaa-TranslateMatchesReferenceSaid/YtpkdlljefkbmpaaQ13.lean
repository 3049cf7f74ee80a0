/- Merged by program: Inv4 OpenT Make9 -/
import Derived.Test.YtpkdlljefkbmpaaQ6
import Derived.Test.YtpkdlljefkbmpaaQ10
import Derived.ChangeOld
import Derived.OpenShut
import Derived.Deep.Slices
import Derived.Deep.Fields
import Derived.ChangeArms
import Derived.Test.YtpkdlljefkbmpaaQ11
import Derived.Test.YtpkdlljefkbmpaaQ12
import Derived.Deep.CutBlock
import Derived.Deep.CutRange
import Derived.Deep.LoopGhost
import Derived.Deep.RegionLaw

/-! A region that draws its order: operations that only make, in whatever order; what comes behind all of them, in the order that is left. -/
namespace Go.Proofs.Ytpkdlljefkbmpaa
open Go.RowKit

def frontL (n N : Nat) : Array Bool := ((List.range n).map fun i => decide (i < N)).toArray
theorem frontL_eq {n N : Nat} {listed : Array Bool} (hsz : listed.size = n) (h1 : ∀ i, i < N → listed.getD i false = true) (h2 : ∀ i, N ≤ i → listed.getD i false = false) : listed = frontL n N := by
 apply Array.ext
 ·
  simp [frontL, hsz]
 ·
  intro i hi1 hi2
  have hg : listed.getD i false = listed[i] := by simp [hi1]
  have : (frontL n N)[i] = decide (i < N) := by simp [frontL]
  rw [this, ← hg]
  by_cases h : i < N
  ·
   rw [h1 i h]; simp [h]
  ·
   rw [h2 i (by omega)]; simp [h]
theorem frontL_count {n N : Nat} (_h : N ≤ n) : (frontL n N).toList.count false = n - N := by
 unfold frontL
 have key : ∀ k, k ≤ n → (((List.range k).map fun i => decide (i < N))).count false = k - N := by
  intro k
  induction k with
  | zero => intro _; simp
  | succ k ih =>
   intro hk
   rw [List.range_succ, List.map_append, List.count_append, ih (by omega)]
   by_cases hkN : k < N
   ·
    simp [hkN]; omega
   ·
    simp [hkN]; omega
 simpa using key n (Nat.le_refl _)
theorem wpAny_one {P : Program} {md : Region.Mode} {ops : Array Oper} {Q : Exit → Act → World → Prop} {fuel i : Nat} {listed : Array Bool} {a : Act} {w : World} (hr : Region.ready md ops listed = [i])
  (h : wpOp P ops Q i (fun a' w' => wpAny P md ops Q fuel (listed.setIfInBounds i true) a' w') a w) : wpAny P md ops Q (fuel + 1) listed a w := by
 refine ⟨fun h0 => ?_, fun j hj => ?_⟩
 ·
  rw [hr] at h0; cases h0
 ·
  rw [hr, List.mem_singleton] at hj
  subst hj; exact h
theorem wp_region_head {P : Program} {id : Nat} {ops : Array Oper} {Q : Exit → Act → World → Prop} {d : List Deferred} {w0 : World} (N k : Nat) (hm : P.follows .mixedOrders = true)
  (slots : (Nat → Value) → List Value) (S : (Nat → Value) → World → Prop) (φ : Nat → Value → World → Prop) (y0 : Nat → Value)
  (hsz : ops.size = N + (k + 1))
  (hac : (List.range ops.size).all (fun i => (depsOf ops i).all (· < i)) = true)
  (hcov : (List.range N).all (fun i => (List.range (N + 1)).any fun k => decide (i < k) && (depsOf ops k).contains i) = true)
  (hlast : (List.range k).all (fun j => (depsOf ops (N + 1 + j)).contains N) = true)
  (hmono : ∀ i v w w', φ i v w → Below w.heap.size w w' → φ i v w')
  (hS : S y0 w0.drew)
  (rs : List Nat) (hrs : List.range N = rs)
  (hop : ∀ i ∈ rs, ∀ (y : Nat → Value) (w : World) (K : Act → World → Prop), S y w → (∀ j, (depsOf ops i).contains j = true → φ j (y j) w) →
   (∀ v w', S (upd y i v) w' → φ i v w' → Below w.heap.size w w' → K ⟨(slots (upd y i v)).toArray, d⟩ w') → wpOp P ops Q i K ⟨(slots y).toArray, d⟩ w)
  (hend : ∀ (y : Nat → Value) (w : World) (f : Nat), S y w → (∀ i, i < N → φ i (y i) w) → wpAny P .any ops Q (f + (k + 1)) (frontL (N + (k + 1)) N) ⟨(slots y).toArray, d⟩ w) :
  (Code.region id ops true).wp P Q ⟨(slots y0).toArray, d⟩ w0 := by
 have hlt : ∀ i, i < ops.size → ∀ j, (depsOf ops i).contains j = true → j < i := by
  intro i hi j hj
  have h1 := List.all_eq_true.1 hac i (List.mem_range.2 hi)
  simpa using List.all_eq_true.1 h1 j (by simpa using hj)
 have hacE : ∀ (i : Nat) (o : Oper), ops[i]? = some o → ∀ e ∈ o.after, Region.binds .any e = true → e.on < i := by
  intro i o ho e he hb
  exact hlt i (Array.getElem?_eq_some_iff.1 ho).1 _ (mem_deps ho he hb)
 refine wp_region_any hm ?_
 have main : ∀ (fuel : Nat) (listed : Array Bool) (a : Act) (w : World), listed.size = ops.size → (∀ i, N ≤ i → listed.getD i false = false) → ClosedB ops (fun j => listed.getD j false) →
   (∃ y, a = ⟨(slots y).toArray, d⟩ ∧ S y w ∧ ∀ i, i < N → listed.getD i false = true → φ i (y i) w) → listed.toList.count false ≤ fuel → wpAny P .any ops Q fuel listed a w := by
  intro fuel
  induction fuel with
  | zero =>
   intro listed a w hs hN hcl _ hcnt
   exfalso
   have h0 := hN N (Nat.le_refl _)
   have hNlt : N < listed.size := by omega
   have hpos : 0 < listed.toList.count false := by
    rw [List.count_pos_iff]
    have : listed.toList[N]'(by simpa using hNlt) = false := by simpa [hNlt] using h0
    rw [← this]; exact List.getElem_mem _
   omega
  | succ fuel ih =>
   intro listed a w hs hN hcl hy hcnt
   by_cases hall : ∀ i, i < N → listed.getD i false = true
   ·
    obtain ⟨y, rfl, hSw, hφ⟩ := hy
    have hl := frontL_eq hs hall hN
    have hc2 := frontL_count (n := N + (k + 1)) (N := N) (by omega)
    rw [hsz] at hl
    rw [hl, hc2] at hcnt
    rw [hl]
    have hf : fuel + 1 = (fuel - k) + (k + 1) := by omega
    rw [hf]
    exact hend y w _ hSw (fun i hi => hφ i hi (hall i hi))
   ·
    refine ⟨fun hr => absurd (fun i hi => ready_nil hacE hs hr i (by omega)) hall, fun i hi => ?_⟩
    obtain ⟨h0, o, ho, hd⟩ := mem_ready.1 hi
    have hisz : i < ops.size := (Array.getElem?_eq_some_iff.1 ho).1
    have hbi : listed.getD i false = false := by simpa [show i < listed.size by omega] using h0
    have hd' : ∀ o', ops[i]? = some o' → ∀ e ∈ o'.after, Region.binds .any e = true → listed.getD e.on false = true := fun o' ho' e he hb => by rw [ho] at ho'; cases ho'; exact hd e he hb
    have hiN : i < N := by
     rcases Nat.lt_or_ge i N with g | g
     ·
      exact g
     ·
      exfalso
      by_cases hie : i = N
      ·
       subst hie
       exact hall (covered (by omega) hcov hcl (fun j hj => of_deps (b := fun j => listed.getD j false) hisz hd' hj))
      ·
       have hc := List.all_eq_true.1 hlast (i - (N + 1)) (List.mem_range.2 (by omega))
       rw [show N + 1 + (i - (N + 1)) = i by omega] at hc
       have := of_deps (b := fun j => listed.getD j false) hisz hd' hc
       have h2 := hN N (Nat.le_refl _)
       rw [h2] at this; cases this
    obtain ⟨y, rfl, hSw, hφ⟩ := hy
    have hcs := count_set_lt (listed := listed) (i := i) (by omega) h0
    have e : ∀ j, (listed.setIfInBounds i true).getD j false = if j = i then true else listed.getD j false := by
     intro j
     by_cases hj : j = i
     ·
      subst hj; simp [show j < listed.size by omega]
     ·
      rw [getD_set_ne false (Ne.symm hj), if_neg hj]
    have hcl' : ClosedB ops (fun j => (listed.setIfInBounds i true).getD j false) := by
     intro q hq hbq j hj
     simp only [e] at hbq ⊢
     by_cases hji : j = i
     ·
      simp [hji]
     ·
      rw [if_neg hji]
      by_cases hqi : q = i
      ·
       subst hqi; exact of_deps (b := fun j => listed.getD j false) hisz hd' hj
      ·
       rw [if_neg hqi] at hbq; exact hcl q hq hbq j hj
    refine hop i (by rw [← hrs]; exact List.mem_range.2 hiN) y w _ hSw (fun j hj => hφ j (by have := hlt i hisz j hj; omega) (of_deps (b := fun j => listed.getD j false) hisz hd' hj)) (fun v w' hS' hv hb' => ?_)
    refine ih _ _ _ (by simpa using hs) (fun j hj => by rw [e, if_neg (by omega)]; exact hN j hj) hcl' ⟨upd y i v, rfl, hS', fun j hjN hj => ?_⟩ (by omega)
    by_cases hji : j = i
    ·
     subst hji
     have : upd y j v j = v := by simp [upd]
     rw [this]; exact hv
    ·
     have : upd y i v j = y j := by simp [upd, hji]
     rw [this]
     rw [e, if_neg hji] at hj
     exact hmono j _ w w' (hφ j hjN hj) hb'
 have hg0 : ∀ i, (Array.replicate ops.size false).getD i false = false := by
  intro i
  by_cases h : i < ops.size <;> simp [h]
 exact main _ _ _ _ (by simp) (fun i _ => hg0 i) (fun i _ hb => by simp only [hg0] at hb; cases hb) ⟨y0, rfl, hS, fun i _ hb => by rw [hg0] at hb; cases hb⟩ (by simp)
end Go.Proofs.Ytpkdlljefkbmpaa

/-! Opening an argument that is a table: its numbers, and its rules where they lie. -/
namespace Go.Proofs.Ytpkdlljefkbmpaa
open Go.ChangeShapes Go.WideShapes Go.RowKit Go.Deep

instance : Inhabited Rule := ⟨⟨ByteArray.empty, [], 0, 0, 0, 0⟩⟩
def Rule.wide (x : Rule) : Prop :=
 (∀ z ∈ x.c, 0 ≤ z ∧ z < 256) ∧ (0 ≤ x.l ∧ x.l < 256) ∧ (0 ≤ x.r ∧ x.r < 256) ∧ (-9223372036854775808 ≤ x.f ∧ x.f ≤ 9223372036854775807) ∧ (-9223372036854775808 ≤ x.t ∧ x.t ≤ 9223372036854775807)
def RawAt (w : World) (B b o : Nat) (x : Rule) : Prop :=
 ∃ A k, w.cell? ⟨b, o, none⟩ = some (.string x.p) ∧ w.cell? ⟨b, o + 1, none⟩ = some (.slice A x.c.length k) ∧ w.cell? ⟨b, o + 2, none⟩ = some (.int .u8 x.l) ∧ w.cell? ⟨b, o + 3, none⟩ = some (.int .u8 x.r) ∧ w.cell? ⟨b, o + 4, none⟩ = some (.int .i64 x.f) ∧ w.cell? ⟨b, o + 5, none⟩ = some (.int .i64 x.t) ∧ Seq w B A x.c ∧ x.wide
def Raws (w : World) (B : Nat) (A : Option Addr) (rs : List Rule) : Prop :=
 0 < rs.length → ∃ b o : Nat, A = some ⟨b, o, none⟩ ∧ b < B ∧ ∀ j (h : j < rs.length), RawAt w B b (o + j * 6) rs[j]
theorem RawAt.keep {w w' : World} {B b o : Nat} {x : Rule} (h : RawAt w B b o x) (hB : b < B) (hb : Below B w w') : RawAt w' B b o x := by
 obtain ⟨A, k, h0, h1, h2, h3, h4, h5, hs, hf⟩ := h
 have key : ∀ i, w'.cell? ⟨b, i, none⟩ = w.cell? ⟨b, i, none⟩ := fun i => hb.cell (p := ⟨b, i, none⟩) hB
 exact ⟨A, k, (key _).trans h0, (key _).trans h1, (key _).trans h2, (key _).trans h3, (key _).trans h4, (key _).trans h5, hs.keep hb, hf⟩
theorem RawAt.more {w : World} {B B' b o : Nat} {x : Rule} (h : RawAt w B b o x) (hB : B ≤ B') : RawAt w B' b o x := by
 obtain ⟨A, k, h0, h1, h2, h3, h4, h5, hs, hf⟩ := h
 exact ⟨A, k, h0, h1, h2, h3, h4, h5, hs.more hB, hf⟩
theorem Raws.up {w w' : World} {A : Option Addr} {rs : List Rule} (h : Raws w w.heap.size A rs) (hb : Below w.heap.size w w') : Raws w' w'.heap.size A rs := fun hl => by
 obtain ⟨b, o, e, hB, hc⟩ := h hl
 exact ⟨b, o, e, by have := hb.size; omega, fun j hj => ((hc j hj).keep hB hb).more hb.size⟩
theorem Raws.rules {w : World} {B : Nat} {A : Option Addr} {rs : List Rule} (h : Raws w B A rs) (hs : ∀ (i : Nat) (x : Rule), i < rs.length → rs[i]? = some x → x.p.size ≤ 6 ∧ x.c.length ≤ 6) : Rules w B A rs := fun hl => by
 obtain ⟨b, o, e, hB, hc⟩ := h hl
 refine ⟨b, o, e, hB, fun j hj => ?_⟩
 obtain ⟨A, k, h0, h1, h2, h3, h4, h5, hq, hf⟩ := hc j hj
 have := hs j _ hj (List.getElem?_eq_getElem hj)
 exact ⟨A, k, h0, h1, h2, h3, h4, h5, hq, by omega, by omega, hf⟩

theorem addr_plain {w : World} {a : Addr} {v : Value} (h : w.cell? a = some v) : ∃ b o, a = ⟨b, o, none⟩ := by
 obtain ⟨b, o, s⟩ := a
 cases s with
 | none => exact ⟨b, o, rfl⟩
 | some q => simp [World.cell?] at h; split at h <;> simp at h
theorem plain_add (b o i : Nat) : (⟨b, o, none⟩ : Addr).add i = ⟨b, o + i, none⟩ := by
 unfold Addr.add; split <;> simp_all

section
variable {H : Type} {enc : TypeId × Value → H} {W : World} {base : Nat} {spare : Nat → Bool} {held : Bool}
end
end Go.Proofs.Ytpkdlljefkbmpaa

/-! Reference of the tables: Made. -/
namespace Go.Proofs.Ytpkdlljefkbmpaa
open Go.RowKit
variable {ops : Array Oper} in
theorem step_append_made {o : Oper} {a : Act} {w : World} {K : Act → World → Prop} {Q : Exit → Act → World → Prop} {E : Prop} (hgd : o.guard = none) (s x : Operand)
  (ho : o.op = .call { callee := .builtin .append, args := #[s, x], argTypes := #[28, 28] })
  (base lo : Nat) (v u : Value) (rs new : List Rule) (hs : a.eval s = v) (hm : MadeB w base lo v rs) (hx : a.eval x = u) (hn : NewR lo new u w) (hlen : rs.length + new.length ≤ 1000) (h0 : 0 < new.length) (hbase : base ≤ w.heap.size)
  (h : ∀ A' k' w', MadeB w' base lo (.slice A' (rs.length + new.length) k') (rs ++ new) → Onto base w w' → K (a.put o.dst (.slice A' (rs.length + new.length) k')) w') : if Region.wanted o (yielded ops a.tmps) = true then Oper.wp Try.prog o a w K Q else E := by
 obtain ⟨i0, hi0, hz0, hz1, hz2⟩ := info_parts info_rule
 obtain ⟨A, k, vals, e, hown, hr⟩ := hm
 obtain ⟨g, nv, e2, hB, hnr⟩ := hn
 refine step_append_own hgd s x 28 ho base 99 i0 (.agg #[.string ⟨#[]⟩, .slice none 0 0, .int .u8 0, .int .u8 0, .int .i64 0, .int .i64 0]) 6 64 Try.underlying28 hi0 hz0 hz1 hz2 rfl (by decide) v rs.length vals hs hown ⟨g, 0, none⟩ new.length new.length nv (hx.trans e2) hnr.1.1 (cell_of_blk hB) hnr.oneCell ?_ ?_ hbase ?_
 ·
  unfold maxLen; omega
 ·
  omega
 intro v' w' h1 h2
 have hO := own_onto hown h2
 have hM := Made.app hr hnr h1 hO h0
 obtain ⟨A', k', rfl⟩ := own_form h1
 exact h A' k' w' hM hO
theorem MadeB.at_ {w : World} {base lo k : Nat} {A : Option Addr} {rs : List Rule} (h : MadeB w base lo (.slice A rs.length k) rs) {j : Nat} (hj : j < rs.length) : ∃ b Aj kj, A = some ⟨b, 0, none⟩ ∧ base ≤ b ∧ b < w.heap.size ∧ w.cell? ⟨b, j * 6, none⟩ = some (.string rs[j].p) ∧ w.cell? ⟨b, j * 6 + 1, none⟩ = some (.slice Aj rs[j].c.length kj) ∧ w.cell? ⟨b, j * 6 + 2, none⟩ = some (.int .u8 rs[j].l) ∧ w.cell? ⟨b, j * 6 + 3, none⟩ = some (.int .u8 rs[j].r) ∧ w.cell? ⟨b, j * 6 + 4, none⟩ = some (.int .i64 rs[j].f) ∧ w.cell? ⟨b, j * 6 + 5, none⟩ = some (.int .i64 rs[j].t) ∧ SeqC w lo Aj rs[j].c kj ∧ rs[j].fits := by
 obtain ⟨A0, k0, vals, e, hown, ⟨hl, hr⟩, hcp⟩ := h
 injection e with e1 e2 e3
 subst e1 e3
 rcases hown.2 with ⟨e, hn0⟩ | ⟨g, cap, cur, e, hg, hblk, hcap, _⟩
 ·
  omega
 ·
  injection e with e1 e2 e3
  subst e1 e3
  obtain ⟨A', k', a0, a1, a2, a3, a4, a5, hs', hf'⟩ := hr j hj
  have key : ∀ i u, i < 6 → vals[j * 6 + i]? = some u → w.cell? ⟨g, j * 6 + i, none⟩ = some u := fun i u hi hu => by
   rw [hown.cellAt _ (by omega)]; exact hu
  exact ⟨g, A', k', rfl, hg, Blk.lt hblk, key 0 _ (by omega) a0, key 1 _ (by omega) a1, key 2 _ (by omega) a2, key 3 _ (by omega) a3, key 4 _ (by omega) a4, key 5 _ (by omega) a5, SeqC.mk_ hs' (hcp j _ _ _ a1), hf'⟩
theorem MadeB.empty (w : World) (lo : Nat) : MadeB (w.alloc (.cells #[] 99)) w.heap.size lo (.slice (some ⟨w.heap.size, 0, none⟩) 0 0) [] :=
 ⟨_, _, [], rfl, World.ownsRow_lit w #[] 0 (Nat.le_refl _) (by decide) rfl, RulesW.nil⟩
theorem MadeB.pop {w : World} {base lo k : Nat} {A : Option Addr} {rs : List Rule} {x : Rule} (h : MadeB w base lo (.slice A (rs.length + 1) k) (rs ++ [x])) : MadeB w base lo (.slice A rs.length k) rs := by
 obtain ⟨A0, k0, vals, e, hown, ⟨hl, hr⟩, hcp⟩ := h
 rw [List.length_append] at e hl
 injection e with e1 e2 e3
 subst e1 e3
 rw [List.length_append] at hown
 rcases hown.2 with ⟨e, hn0⟩ | ⟨g, cap, cur, e, hg, hblk, hcap, _⟩
 ·
  simp at hn0
 ·
  injection e with e1 e2 e3
  subst e1 e3
  have hlv : vals.length = rs.length * 6 + 6 := by simp at hl; omega
  have ho := ownsRow_pop (xs := vals.take (rs.length * 6)) (last := vals.drop (rs.length * 6)) (n := rs.length) (size := 6) (by simp; omega) (by rw [List.take_append_drop]; exact hown)
  refine ⟨_, _, vals.take (rs.length * 6), rfl, ho, ⟨by simp; omega, fun j hj => ?_⟩, fun j A n k hj => hcp j A n k (by rw [List.getElem?_take] at hj; split at hj; exact hj; cases hj)⟩
  obtain ⟨A', k', a0, a1, a2, a3, a4, a5, hs', hf'⟩ := hr j (by simp; omega)
  have e : (rs ++ [x])[j]'(by simp; omega) = rs[j] := List.getElem_append_left hj
  rw [e] at a0 a1 a2 a3 a4 a5 hs' hf'
  have key : ∀ i u, i < rs.length * 6 → vals[i]? = some u → (vals.take (rs.length * 6))[i]? = some u := fun i u hi hu => by rw [List.getElem?_take_of_lt hi]; exact hu
  exact ⟨A', k', key _ _ (by omega) a0, key _ _ (by omega) a1, key _ _ (by omega) a2, key _ _ (by omega) a3, key _ _ (by omega) a4, key _ _ (by omega) a5, hs', hf'⟩
theorem MadeB.ru {w : World} {base lo n k : Nat} {A : Option Addr} {rs : List Rule} (h : MadeB w base lo (.slice A n k) rs) : n = rs.length ∧ Rules w w.heap.size A rs ∧ n ≤ k := by
 obtain ⟨A2, k2, e, h1, h2⟩ := h.rules
 injection e with e1 e2 e3
 subst e1 e2 e3
 exact ⟨rfl, h1, h2⟩
def Fine (m : Int) (rs : List Rule) : Prop := (∀ i j (h1 : i < rs.length) (h2 : j < rs.length), i < j → rs[i] ≠ rs[j]) ∧ ∀ x ∈ rs, soundB x m = true
theorem GoodL.fine {m a : Int} {rs : List Rule} (h : GoodL m a rs) : Fine m rs := h.2
theorem Fine.good {m a : Int} {rs rs' : List Rule} (h : Fine m rs') (hg : GoodL m a rs) (h0 : 0 < rs'.length) (h1 : rs'.length ≤ 64) : GoodL m a rs' := by
 refine ⟨?_, h⟩
 have := hg.1
 unfold numsB at this ⊢
 simp only [Bool.and_eq_true, decide_eq_true_eq] at this ⊢
 exact ⟨⟨this.1.1, by omega⟩, by omega⟩
theorem Fine.sub {m : Int} {rs rs' : List Rule} (h : Fine m rs) (hs : rs'.Sublist rs) : Fine m rs' := by
 refine ⟨?_, fun x hx => h.2 x (hs.subset hx)⟩
 have h1 : rs.Pairwise (· ≠ ·) := List.pairwise_iff_getElem.2 fun i j hi hj hij => h.1 i j hi hj hij
 exact List.pairwise_iff_getElem.1 (h1.sublist hs)
theorem sub_take {rs rs' : List Rule} {j : Nat} (h : rs'.Sublist (rs.take j)) (hj : j < rs.length) : rs'.Sublist (rs.take (j + 1)) ∧ (rs' ++ [rs[j]]).Sublist (rs.take (j + 1)) := by
 rw [List.take_succ_eq_append_getElem hj]
 exact ⟨h.trans (List.sublist_append_left _ _), h.append (List.Sublist.refl _)⟩
def RawR (w : World) (B b o : Nat) : Prop := ∃ (A : Option Addr) (np kp : Nat) (C : Option Addr) (nc kc : Nat) (ps cs : List Int) (l r u0 u1 : Int), w.cell? ⟨b, o, none⟩ = some (.slice A np kp) ∧ w.cell? ⟨b, o + 1, none⟩ = some (.slice C nc kc) ∧ w.cell? ⟨b, o + 2, none⟩ = some (.int .u8 l) ∧ w.cell? ⟨b, o + 3, none⟩ = some (.int .u8 r) ∧ w.cell? ⟨b, o + 4, none⟩ = some (.int .u8 u0) ∧ w.cell? ⟨b, o + 5, none⟩ = some (.int .u8 u1) ∧ ps.length = np ∧ cs.length = nc ∧ Seq w B A ps ∧ Seq w B C cs ∧ (0 ≤ l ∧ l < 256) ∧ (0 ≤ r ∧ r < 256) ∧ (0 ≤ u0 ∧ u0 < 256) ∧ (0 ≤ u1 ∧ u1 < 256) ∧ (∀ z ∈ ps, 0 ≤ z ∧ z < 256) ∧ (∀ z ∈ cs, 0 ≤ z ∧ z < 256)
def RawMs (w : World) (B : Nat) (A : Option Addr) (n : Nat) : Prop := 0 < n → ∃ b o : Nat, A = some ⟨b, o, none⟩ ∧ b < B ∧ ∀ j, j < n → RawR w B b (o + j * 6)
def PreM (w V : World) (A : Option Addr) (n k : Nat) (bs dr : Int) (l : Value) (rs : List Rule) : Prop :=
 Blk V w.heap.size 24 #[.int .u8 bs, .int .u8 dr, .slice A n k] ∧ Blk V (w.heap.size + 1) 30 #[.int .i64 0, .int .u8 0, .slice none 0 0] ∧ Made V w.heap.size l rs ∧ Below w.heap.size w V ∧ w.heap.size + 2 ≤ V.heap.size
theorem preM_of {w w1 : World} {A : Option Addr} {n k : Nat} {bs dr : Int} {l : Value} {rs : List Rule}
  (hm : Made w1 ((w.alloc (.cells #[.int .u8 bs, .int .u8 dr, .slice A n k] 24)).alloc (.cells #[.int .i64 0, .int .u8 0, .slice none 0 0] 30)).heap.size l rs)
  (hb : Below ((w.alloc (.cells #[.int .u8 bs, .int .u8 dr, .slice A n k] 24)).alloc (.cells #[.int .i64 0, .int .u8 0, .slice none 0 0] 30)).heap.size ((w.alloc (.cells #[.int .u8 bs, .int .u8 dr, .slice A n k] 24)).alloc (.cells #[.int .i64 0, .int .u8 0, .slice none 0 0] 30)) w1) :
  PreM w w1 A n k bs dr l rs := by
 have k0 := below_box w #[.int .u8 bs, .int .u8 dr, .slice A n k] 24
 have n0 := Blk.new w #[.int .u8 bs, .int .u8 dr, .slice A n k] 24
 have s0 : (w.alloc (.cells #[.int .u8 bs, .int .u8 dr, .slice A n k] 24)).heap.size = w.heap.size + 1 := by simp
 generalize w.alloc (.cells #[.int .u8 bs, .int .u8 dr, .slice A n k] 24) = x1 at *
 have k1 := below_box x1 #[.int .i64 0, .int .u8 0, .slice none 0 0] 30
 have n1 := Blk.new x1 #[.int .i64 0, .int .u8 0, .slice none 0 0] 30
 have s1 : (x1.alloc (.cells #[.int .i64 0, .int .u8 0, .slice none 0 0] 30)).heap.size = x1.heap.size + 1 := by simp
 generalize x1.alloc (.cells #[.int .i64 0, .int .u8 0, .slice none 0 0] 30) = x2 at *
 rw [s0] at n1
 have hs := hb.size
 exact ⟨(n0.keep k1 (by omega)).keep hb (by omega), n1.keep hb (by omega), hm.less (by omega), below_next (below_next k0 k1) hb, by omega⟩
def MadeEnd (w : World) (e : Ending) (w' : World) : Prop := ∃ (m a : Int) (rs : List Rule) (v : Value), e = .returned (.agg #[.int .i64 m, .int .u8 a, v]) ∧ Made w' w.heap.size v rs ∧ GoodL m a rs ∧ rs.length ≤ 10 ∧ (1 ≤ m ∧ m ≤ 2) ∧ (0 ≤ a ∧ a < 256) ∧ Below w.heap.size w w'
def phiMade (g q b o n k j : Nat) (m : Int) (A' : Option Addr) (nr k' : Nat) (PA : Option Addr) (np kp : Nat) (CA : Option Addr) (nc kc : Nat) (cl cr u0 u1 : Int) (i : Nat) (v : Value) (w' : World) : Prop := match i with
 | 0 => v = .pointer (some ⟨q, 2, none⟩)
 | 1 => v = .slice A' nr k'
 | 2 => v = .pointer (some ⟨g, 2, none⟩)
 | 3 => v = .slice (some ⟨b, o, none⟩) n k
 | 4 => v = .int .i64 j
 | 5 => v = .pointer (some ⟨b, o + j * 6, none⟩)
 | 6 => v = .agg #[.slice PA np kp, .slice CA nc kc, .int .u8 cl, .int .u8 cr, .int .u8 u0, .int .u8 u1]
 | 7 => v = .pointer (some ⟨q, 0, none⟩)
 | 8 => v = .int .i64 m
 | 9 => ∃ x, IsRule g x v w' ∧ x.fits
 | 10 => ∃ x, NewR g [x] v w' ∧ x.fits
 | _ => True
set_option maxRecDepth 10000 in
set_option maxHeartbeats 2000000 in
theorem made_any (w : World) (A : Option Addr) (n k : Nat) (bs dr : Int) (hW : RawMs w w.heap.size A n) (hb : 0 ≤ bs ∧ bs < 256) (_hd : 0 ≤ dr ∧ dr < 256) :
  Calls Try.prog 17 #[.agg #[.int .u8 bs, .int .u8 dr, .slice A n k]] w (MadeEnd w) := by
 have HW := Lib.hid hW
 clear hW
 go_enter Try.func17, Try.ntmps17
 go_wp2_with fail
 refine (base_any bs hb.1 hb.2 _).mono ?_
 rintro e w1 ⟨v, rfl, hm, hbl⟩
 obtain ⟨hG, hBL, hBM, hBA⟩ := base_good (bs % 8) ⟨by omega, by omega⟩
 have PM := Lib.hid (preM_of hm hbl)
 clear hm hbl
 generalize baseM (bs % 8) = m at *
 generalize baseA (bs % 8) = a at *
 generalize baseR (bs % 8) = rs at *
 have HG := Lib.hid hG
 clear hG
 obtain ⟨A1, k1, rfl, hR1, hk1⟩ := (Made.b PM.out.2.2.1).rules
 have HR1 := Lib.hid hR1
 clear hR1
 obtain ⟨g, hg⟩ : ∃ g, w.heap.size = g := ⟨_, rfl⟩
 obtain ⟨q, hq⟩ : ∃ q, w1.heap.size = q := ⟨_, rfl⟩
 have b2 := PM.out.1.cell 0
 go_upto_block 0 with fail
 have XQ : Hid (Blk ((w1.alloc (.cells #[.int .i64 m, .int .u8 a, .slice (some ⟨q + 1, 0, none⟩) 0 0] 30)).alloc (.cells #[] 99)) q 30 #[.int .i64 m, .int .u8 a, .slice (some ⟨q + 1, 0, none⟩) 0 0]) := by
  unfold Hid; rw [← hq]; exact (Blk.new w1 _ _).box
 have XM : Hid (MadeB ((w1.alloc (.cells #[.int .i64 m, .int .u8 a, .slice (some ⟨q + 1, 0, none⟩) 0 0] 30)).alloc (.cells #[] 99)) (q + 1) g (.slice (some ⟨q + 1, 0, none⟩) 0 0) []) := by
  have hs : (w1.alloc (.cells #[.int .i64 m, .int .u8 a, .slice (some ⟨q + 1, 0, none⟩) 0 0] 30)).heap.size = q + 1 := by rw [← hq]; simp
  have h := MadeB.empty (w1.alloc (.cells #[.int .i64 m, .int .u8 a, .slice (some ⟨q + 1, 0, none⟩) 0 0] 30)) g
  rw [hs] at h
  exact h
 have XB : Hid (Below q w1 ((w1.alloc (.cells #[.int .i64 m, .int .u8 a, .slice (some ⟨q + 1, 0, none⟩) 0 0] 30)).alloc (.cells #[] 99))) := by
  unfold Hid; rw [← hq]; exact ((Below.refl _ _).alloc (Nat.le_refl _) _).alloc (by simp) _
 generalize ((w1.alloc (.cells #[.int .i64 m, .int .u8 a, .slice (some ⟨q + 1, 0, none⟩) 0 0] 30)).alloc (.cells #[] 99)) = X at *
 have hM0 := Lib.hid (Made.b PM.out.2.2.1)
 rw [hg] at hM0
 have PMR := Lib.hid PM.out.1
 have PMT := Lib.hid PM.out.2.1
 rw [hg] at PMR PMT HW
 have hgq : g + 2 ≤ q := by rw [← hg, ← hq]; exact PM.out.2.2.2.2
 have PMB := Lib.hid PM.out.2.2.2.1
 rw [hg] at PMB
 clear PM b2
 go_cut [5] from 14 to 34 (fun _ wx => ∃ (v : Value) (rs' : List Rule), Below q w1 wx ∧ Blk wx q 30 #[.int .i64 m, .int .u8 a, v] ∧ MadeB wx (q + 1) g v rs' ∧ rs'.Sublist rs)
 case first =>
  go_wp2_with fail
  go_loopg [5] rs.length (fun gk s5 wx => ∃ (j : Nat) (v : Value) (rs' : List Rule), j ≤ rs.length ∧ gk = rs.length - j ∧ s5 = .int .i64 j ∧ Below q w1 wx ∧ Blk wx q 30 #[.int .i64 m, .int .u8 a, v] ∧ MadeB wx (q + 1) g v rs' ∧ rs'.Sublist (rs.take j))
  case atStart => exact ⟨0, _, [], by omega, by omega, rfl, XB.out, XQ.out, XM.out, by simp⟩
  case round =>
   obtain ⟨j, v, rs', hj, rfl, rfl, hB1, hQ1, hM1, hS1⟩ := hrel
   clear XB XQ XM
   have HB1 := Lib.hid hB1
   have HQ1 := Lib.hid hQ1
   have HM1 := Lib.hid hM1
   have HS1 := Lib.hid hS1
   have a1 := (PMR.out.keep hB1 (by omega)).cell 1
   have q2 := hQ1.cell 2
   have qf2 := hQ1.free 2
   simp only [List.getElem?_toArray, List.getElem?_cons_zero, List.getElem?_cons_succ] at a1 q2
   have hsz : wr.heap.size ≥ q := by have := hB1.size; omega
   clear hB1 hQ1 hM1 hS1
   by_cases hlt : j < rs.length
   ·
    have hlt' : (j : Int) < (rs.length : Int) := by omega
    have hMk := hM0.out.keep (w' := wr) (by rw [hq]; exact HB1.out)
    obtain ⟨b, Aj, kj, rfl, hb1, hb2, d0, d1, d2, d3, d4, d5, hs, hf⟩ := hMk.at_ hlt
    clear hMk
    obtain ⟨x, hx⟩ : ∃ x, rs[j] = x := ⟨_, rfl⟩
    rw [hx] at d0 d1 d2 d3 d4 d5 hs hf
    have HX := Lib.hid hx
    have HSS := Lib.hid hs
    have HF := Lib.hid hf
    clear hx hs hf
    have hlen8 : rs'.length ≤ 8 := by have h1 := HS1.out.length_le; have h2 := List.length_take_le j rs; omega
    have s1 : Hid (MadeB (wr.alloc (.cells #[.string x.p, .slice Aj x.c.length kj, .int .u8 x.l, .int .u8 x.r, .int .i64 x.f, .int .i64 x.t] 99)).drew (q + 1) g v rs') := HM1.out.keep (below_box wr _ _).drew
    have s2 : Hid (NewR g [x] (.slice (some ⟨wr.heap.size, 0, none⟩) 1 1) (wr.alloc (.cells #[.string x.p, .slice Aj x.c.length kj, .int .u8 x.l, .int .u8 x.r, .int .i64 x.f, .int .i64 x.t] 99)).drew) := NewR.lit (RulesW.nil.snoc (k := kj) HSS.out HF.out)
    have s3 : Hid (q + 1 ≤ ((wr.alloc (.cells #[.string x.p, .slice Aj x.c.length kj, .int .u8 x.l, .int .u8 x.r, .int .i64 x.f, .int .i64 x.t] 99)).drew).heap.size) := by
     have := Blk.lt HQ1.out
     have h2 : ((wr.alloc (.cells #[.string x.p, .slice Aj x.c.length kj, .int .u8 x.l, .int .u8 x.r, .int .i64 x.f, .int .i64 x.t] 99)).drew).heap.size = wr.heap.size + 1 := by simp
     unfold Hid; omega
    have s4 : Hid (Blk (wr.alloc (.cells #[.string x.p, .slice Aj x.c.length kj, .int .u8 x.l, .int .u8 x.r, .int .i64 x.f, .int .i64 x.t] 99)).drew q 30 #[.int .i64 m, .int .u8 a, v]) := HQ1.out.box
    have s5 : Hid (Below q w1 (wr.alloc (.cells #[.string x.p, .slice Aj x.c.length kj, .int .u8 x.l, .int .u8 x.r, .int .i64 x.f, .int .i64 x.t] 99)).drew) := (HB1.out.alloc (by omega) _).drew
    have q2a := s4.out.cell 2
    simp only [List.getElem?_toArray, List.getElem?_cons_zero, List.getElem?_cons_succ] at q2a
    go_upto_region 8 with fail
    ·
     go_region_law (refine step_append_made rfl (.tmp 27) (.tmp 32) rfl (q + 1) g v (.slice (some ⟨wr.heap.size, 0, none⟩) 1 1) rs' [x] (by simp [Act.eval]) s1.out (by simp [Act.eval]) s2.out (by show rs'.length + 1 ≤ 1000; omega) (by show 0 < 1; omega) s3.out ?_; intro A' k' w' hM' hO'; have o9 := Lib.hid (hO'.low s4.out (by omega)); have c9 := o9.out.cell 2; have f9 := o9.out.free 2; simp only [List.getElem?_toArray, List.getElem?_cons_zero, List.getElem?_cons_succ] at c9)
     all_goals
      go_wp2_with fail
      go_roundg (rs.length - (j + 1))
      case measure => omega
      case rel =>
       have hsub := (sub_take HS1.out hlt).2
       rw [HX.out] at hsub
       refine ⟨j + 1, .slice A' (rs'.length + 1) k', rs' ++ [x], by omega, rfl, by go_num, ?_, o9.out.set 2 _, MadeB.set hM' o9.out (by decide) _, hsub⟩
       exact Below.setCell (s5.out.trans ((hO'.below (by have := s3.out; omega)).mono (by omega))) (by show q ≤ q; omega) _
    ·
     go_roundg (rs.length - (j + 1))
     case measure => omega
     case rel => exact ⟨j + 1, v, rs', by omega, rfl, by go_num, HB1.out, HQ1.out, HM1.out, (sub_take HS1.out hlt).1⟩
   ·
    obtain rfl : j = rs.length := by omega
    have hlt' : ¬ (rs.length : Int) < (rs.length : Int) := by omega
    go_wp2
    go_meet
    exact ⟨v, rs', HB1.out, HQ1.out, HM1.out, by have := HS1.out; rwa [List.take_length] at this⟩
 case rest =>
  obtain ⟨v, rs', hB, hQ, hM, hS⟩ := hcut
  clear XB XQ XM
  obtain ⟨A0, k0, rfl, _, _⟩ := hM.rules
  have HB := Lib.hid hB
  have HQ := Lib.hid hQ
  have HM := Lib.hid hM
  have HF := Lib.hid (HG.out.fine.sub hS)
  have hl8 : rs'.length ≤ 8 := by have := hS.length_le; omega
  clear hB hQ hM hS
  go_upto_block 2 with fail
  go_cut [6] from 35 to 69 (fun _ wx => ∃ (A' : Option Addr) (k' : Nat) (r2 : List Rule), Below q w1 wx ∧ Blk wx q 30 #[.int .i64 m, .int .u8 a, .slice A' r2.length k'] ∧ MadeB wx (q + 1) g (.slice A' r2.length k') r2 ∧ Fine m r2 ∧ r2.length ≤ 10)
  case first =>
   go_wp2_with fail
   go_loopg [6] 2 (fun gk s6 wx => ∃ (j : Nat) (A' : Option Addr) (k' : Nat) (r2 : List Rule), j ≤ 2 ∧ j ≤ n ∧ gk = 2 - j ∧ s6 = .int .i64 j ∧ Below q w1 wx ∧ Blk wx q 30 #[.int .i64 m, .int .u8 a, .slice A' r2.length k'] ∧ MadeB wx (q + 1) g (.slice A' r2.length k') r2 ∧ Fine m r2 ∧ r2.length ≤ 8 + j)
   case atStart => exact ⟨0, A0, k0, rs', by omega, by omega, by omega, rfl, HB.out, HQ.out, HM.out, HF.out, by omega⟩
   case round =>
    obtain ⟨j, A', k', r2, hj2, hjn, rfl, rfl, hB1, hQ1, hM1, hF1, hl1⟩ := hrel
    clear HB HQ HM HF
    have HB1 := Lib.hid hB1
    have HQ1 := Lib.hid hQ1
    have HM1 := Lib.hid hM1
    have HF1 := Lib.hid hF1
    have a2 := (PMR.out.keep hB1 (by omega)).cell 2
    have q0 := hQ1.cell 0
    have q1 := hQ1.cell 1
    have q2 := hQ1.cell 2
    have qf2 := hQ1.free 2
    simp only [List.getElem?_toArray, List.getElem?_cons_zero, List.getElem?_cons_succ] at a2 q0 q1 q2
    have hsz : wr.heap.size ≥ q := by have := hB1.size; omega
    have hqlt : q < wr.heap.size := Blk.lt hQ1
    clear hB1 hQ1 hM1 hF1
    by_cases hlt : j < n
    ·
     have hlt' : (j : Int) < (n : Int) := by omega
     by_cases h3 : j < 2
     ·
      have h3' : (j : Int) < 2 := by omega
      obtain ⟨b, o, rfl, hbg, hcell⟩ := HW.out (by omega)
      obtain ⟨PA, np, kp, CA, nc, kc, ps, cs, cl, cr, u0, u1, d0, d1, d2, d3, d4, d5, hpn, hcn, hP, hC, hcl, hcr, hu0, hu1, hpz, hcz⟩ := hcell j hlt
      clear hcell
      have BW : Below g w wr := PMB.out.trans (HB1.out.mono (by omega))
      have d0 := (BW.cell (p := ⟨b, o + j * 6, none⟩) (by show b < g; omega)).trans d0
      have d1 := (BW.cell (p := ⟨b, o + j * 6 + 1, none⟩) (by show b < g; omega)).trans d1
      have d2 := (BW.cell (p := ⟨b, o + j * 6 + 2, none⟩) (by show b < g; omega)).trans d2
      have d3 := (BW.cell (p := ⟨b, o + j * 6 + 3, none⟩) (by show b < g; omega)).trans d3
      have d4 := (BW.cell (p := ⟨b, o + j * 6 + 4, none⟩) (by show b < g; omega)).trans d4
      have d5 := (BW.cell (p := ⟨b, o + j * 6 + 5, none⟩) (by show b < g; omega)).trans d5
      have hP := (hP.keep BW).more (B' := wr.heap.size) (by omega)
      have hC := (hC.keep BW).more (B' := wr.heap.size) (by omega)
      have HP := Lib.hid hP
      have HC := Lib.hid hC
      have HPZ := Lib.hid hpz
      have HCZ := Lib.hid hcz
      clear hP hC hpz hcz BW
      go_upto_region 12 with fail
      refine wp_region_head 11 2 (by kernel_rfl) (fun y => .agg #[.int .u8 bs, .int .u8 dr, .slice (some ⟨b, o, none⟩) n k] :: .pointer (some ⟨g, 0, none⟩) :: .pointer (some ⟨g + 1, 0, none⟩) :: .pointer (some ⟨q, 0, none⟩) :: .slice A1 rs.length k1 :: u5 :: .int .i64 j :: .pointer (some ⟨g, 0, none⟩) :: .int .u8 bs :: .agg #[.int .i64 m, .int .u8 a, .slice A1 rs.length k1] :: .pointer (some ⟨q, 2, none⟩) :: .slice A1 rs.length k1 :: .slice (some ⟨q + 1, 0, none⟩) 0 0 :: .pointer (some ⟨q, 2, none⟩) :: u14 :: u15 :: u16 :: u17 :: u18 :: u19 :: u20 :: u21 :: u22 :: u23 :: u24 :: u25 :: u26 :: u27 :: u28 :: u29 :: u30 :: u31 :: u32 :: u33 :: u34 :: .int .i64 j :: .pointer (some ⟨g, 2, none⟩) :: .slice (some ⟨b, o, none⟩) n k :: .int .i64 n :: .bool true :: .bool true :: .int .i64 j :: .bool true :: .bool true :: u44 :: u45 :: y 0 :: y 1 :: y 2 :: y 3 :: y 4 :: y 5 :: y 6 :: y 7 :: y 8 :: y 9 :: y 10 :: y 11 :: y 12 :: u59 :: u60 :: u61 :: u62 :: u63 :: u64 :: u65 :: u66 :: u67 :: u68 :: u69 :: undef :: undef :: undef :: undef :: undef :: undef :: undef :: [])
       (fun _ w' => Below wr.heap.size wr w') (phiMade g q b o n k j m A' r2.length k' PA np kp CA nc kc cl cr u0 u1) (fun i => [u46, u47, u48, u49, u50, u51, u52, u53, u54, u55, u56, u57, u58].getD i undef)
       (by kernel_rfl) (by kernel_rfl) (by kernel_rfl) (by kernel_rfl) ?_ (Below.refl _ _).drew [0, 1, 2, 3, 4, 5, 6, 7, 8, 9, 10] (by kernel_rfl) ?_ ?_
      ·
       intro i v w1 w2 h hb
       unfold phiMade at h ⊢
       split at h <;> first | exact h | (obtain ⟨x, hx, hxf⟩ := h; exact ⟨x, by first | exact IsRule.keep hx hb | exact NewR.keep hx hb, hxf⟩)
      ·
       refine allCons ?_ (allCons ?_ (allCons ?_ (allCons ?_ (allCons ?_ (allCons ?_ (allCons ?_ (allCons ?_ (allCons ?_ (allCons ?_ (allCons ?_ allNil))))))))))
       all_goals intro y w2 K hS hd hK
       ·
        refine wpOp_step rfl (fun K2 hK2 => ?_)
        go_simp
        exact hK2 _ _ (hK _ _ hS rfl (Below.refl _ _))
       ·
        have e0 : y 0 = _ := hd 0 rfl
        obtain ⟨y, rfl⟩ := upd_at (y := y) (i := 0) e0
        dsimp [upd]
        have c := (hS.cell (p := ⟨q, 2, none⟩) (by show q < _; omega)).trans q2
        refine wpOp_step rfl (fun K2 hK2 => ?_)
        go_simp
        exact hK2 _ _ (hK _ _ hS rfl (Below.refl _ _))
       ·
        refine wpOp_step rfl (fun K2 hK2 => ?_)
        go_simp
        exact hK2 _ _ (hK _ _ hS rfl (Below.refl _ _))
       ·
        have e2 : y 2 = _ := hd 2 rfl
        obtain ⟨y, rfl⟩ := upd_at (y := y) (i := 2) e2
        dsimp [upd]
        have c := (hS.cell (p := ⟨g, 2, none⟩) (by show g < _; omega)).trans a2
        refine wpOp_step rfl (fun K2 hK2 => ?_)
        go_simp
        exact hK2 _ _ (hK _ _ hS rfl (Below.refl _ _))
       ·
        refine wpOp_step rfl (fun K2 hK2 => ?_)
        go_simp
        exact hK2 _ _ (hK _ _ hS rfl (Below.refl _ _))
       ·
        have e3 : y 3 = _ := hd 3 rfl
        have e4 : y 4 = _ := hd 4 rfl
        obtain ⟨y, rfl⟩ := upd_at (y := y) (i := 3) e3
        obtain ⟨y, rfl⟩ := upd_at (y := y) (i := 4) e4
        dsimp [upd]
        refine wpOp_step rfl (fun K2 hK2 => ?_)
        go_simp
        exact hK2 _ _ (hK _ _ hS rfl (Below.refl _ _))
       ·
        have e5 : y 5 = _ := hd 5 rfl
        obtain ⟨y, rfl⟩ := upd_at (y := y) (i := 5) e5
        dsimp [upd]
        have c0 := (hS.cell (p := ⟨b, o + j * 6, none⟩) (by show b < _; omega)).trans d0
        have c1 := (hS.cell (p := ⟨b, o + j * 6 + 1, none⟩) (by show b < _; omega)).trans d1
        have c2 := (hS.cell (p := ⟨b, o + j * 6 + 2, none⟩) (by show b < _; omega)).trans d2
        have c3 := (hS.cell (p := ⟨b, o + j * 6 + 3, none⟩) (by show b < _; omega)).trans d3
        have c4 := (hS.cell (p := ⟨b, o + j * 6 + 4, none⟩) (by show b < _; omega)).trans d4
        have c5 := (hS.cell (p := ⟨b, o + j * 6 + 5, none⟩) (by show b < _; omega)).trans d5
        refine wpOp_step rfl (fun K2 hK2 => ?_)
        go_simp
        exact hK2 _ _ (hK _ _ hS rfl (Below.refl _ _))
       ·
        refine wpOp_step rfl (fun K2 hK2 => ?_)
        go_simp
        exact hK2 _ _ (hK _ _ hS rfl (Below.refl _ _))
       ·
        have e7 : y 7 = _ := hd 7 rfl
        obtain ⟨y, rfl⟩ := upd_at (y := y) (i := 7) e7
        dsimp [upd]
        have c := (hS.cell (p := ⟨q, 0, none⟩) (by show q < _; omega)).trans q0
        refine wpOp_step rfl (fun K2 hK2 => ?_)
        go_simp
        exact hK2 _ _ (hK _ _ hS rfl (Below.refl _ _))
       ·
        have e6 : y 6 = _ := hd 6 rfl
        have e8 : y 8 = _ := hd 8 rfl
        obtain ⟨y, rfl⟩ := upd_at (y := y) (i := 6) e6
        obtain ⟨y, rfl⟩ := upd_at (y := y) (i := 8) e8
        dsimp [upd]
        refine wpOp_step rfl (fun K2 hK2 => ?_)
        go_simp
        refine (rule_any _ PA CA np nc kp kc ps cs cl cr u0 u1 m hpn hcn ((HP.out.keep hS).more hS.size) ((HC.out.keep hS).more hS.size) hcl hcr hu0 hu1 hBM HPZ.out HCZ.out).mono ?_
        rintro e' w3 ⟨v2, x, rfl, hx, hxf, _, _, hb⟩
        exact hK2 _ _ (hK _ _ (below_next hS hb) ⟨x, hx.less (by have := hS.size; omega), hxf⟩ hb)
       ·
        obtain ⟨x, ⟨A2, k2, e9, hx⟩, hxf⟩ := hd 9 rfl
        have hm := NewR.lit (RulesW.nil.snoc (k := k2) (x := x) hx hxf)
        obtain ⟨y, rfl⟩ := upd_at (y := y) (i := 9) e9
        dsimp [upd]
        refine wpOp_step rfl (fun K2 hK2 => ?_)
        go_simp
        exact hK2 _ _ (hK _ _ (hS.alloc hS.size _) ⟨x, hm, hxf⟩ ((Below.refl _ _).alloc (Nat.le_refl _) _))
      ·
       intro y w2 f hS hd
       have e1 : y 1 = _ := hd 1 (by decide)
       obtain ⟨x, hnew, hxf⟩ := hd 10 (by decide)
       have hMy : MadeB w2 (q + 1) g (.slice A' r2.length k') r2 := HM1.out.keep hS
       have hQy := HQ1.out.keep hS (Blk.lt HQ1.out)
       have hsz2 := hS.size
       have hBy : Below q w1 w2 := HB1.out.trans (hS.mono (by omega))
       clear hd
       refine wpAny_one (i := 11) (by kernel_rfl) ?_
       refine wpOp_append_made rfl rfl _ _ rfl (q + 1) g _ _ r2 [x] e1 hMy rfl hnew (by show r2.length + 1 ≤ 1000; omega) (by show 0 < 1; omega) (by have := Blk.lt hQy; omega) ?_
       intro v' w3 hM3 hO3
       have hQ3 := hO3.low hQy (by omega)
       have hB3 : Below q w1 w3 := hBy.trans ((hO3.below (by have := Blk.lt hQy; omega)).mono (by omega))
       obtain ⟨A9, k9, rfl, hR9, hk9⟩ := hM3.rules
       obtain ⟨b9, _, _, rfl, hb9, hlt9, _⟩ := hM3.at_ (j := r2.length) (by simp)
       have hl9 : (r2 ++ [x]).length = r2.length + 1 := by simp
       simp only [hl9] at hM3 hk9 ⊢
       have c9 := hQ3.cell 2
       have f9 := hQ3.free 2
       simp only [List.getElem?_toArray, List.getElem?_cons_zero, List.getElem?_cons_succ] at c9
       have M3 := Lib.hid hM3
       have Q3 := Lib.hid hQ3
       have B3 := Lib.hid hB3
       clear hM3 hQ3 hB3 hR9 hnew hMy hQy hBy hS hO3
       refine wpAny_one (i := 12) (by kernel_rfl) ?_
       refine wpOp_step rfl (fun K2 hK2 => ?_)
       go_simp
       refine hK2 _ _ ?_
       clear hK2 K2
       refine wpAny_one (i := 13) (by kernel_rfl) ?_
       refine wpOp_step rfl (fun K2 hK2 => ?_)
       go_simp
       refine hK2 _ _ ?_
       clear hK2 K2
       refine wpAny_done (by kernel_rfl) ?_ _
       have Q4 : Hid (Blk (w3.setCell ⟨q, 2, none⟩ (.slice (some ⟨b9, 0, none⟩) (r2.length + 1) k9)) q 30 #[.int .i64 m, .int .u8 a, .slice (some ⟨b9, 0, none⟩) (r2.length + 1) k9]) := Q3.out.set 2 _
       have M4 : Hid (MadeB (w3.setCell ⟨q, 2, none⟩ (.slice (some ⟨b9, 0, none⟩) (r2.length + 1) k9)) (q + 1) g (.slice (some ⟨b9, 0, none⟩) (r2.length + 1) k9) (r2 ++ [x])) := M3.out.set Q3.out (by decide) _
       have B4 : Hid (Below q w1 (w3.setCell ⟨q, 2, none⟩ (.slice (some ⟨b9, 0, none⟩) (r2.length + 1) k9))) := B3.out.setCell (Nat.le_refl _) _
       clear Q3 M3 B3 c9 f9
       generalize w3.setCell ⟨q, 2, none⟩ (.slice (some ⟨b9, 0, none⟩) (r2.length + 1) k9) = w4 at *
       have c0 := Q4.out.cell 0
       have c1 := Q4.out.cell 1
       have c2 := Q4.out.cell 2
       simp only [List.getElem?_toArray, List.getElem?_cons_zero, List.getElem?_cons_succ] at c0 c1 c2
       obtain ⟨hn4, hR4, hk4⟩ := M4.out.ru
       have HR4 := Lib.hid hR4
       clear hR4 hn4
       go_wp2_with fail
       refine (rValid_any (some ⟨b9, 0, none⟩) (r2.length + 1) k9 m a (r2 ++ [x]) _ hl9 HR4.out (by omega) hBA).mono ?_
       rintro e w5 ⟨rfl, hb5⟩
       have Q5 := Lib.hid (Q4.out.keep hb5 (Blk.lt Q4.out))
       have M5 := Lib.hid (M4.out.keep hb5)
       have B5 := Lib.hid (B4.out.trans (hb5.mono (by have := Blk.lt Q4.out; omega)))
       clear hb5 Q4 M4 B4 HR4 c0 c1 c2
       have c2 := Q5.out.cell 2
       have f2 := Q5.out.free 2
       simp only [List.getElem?_toArray, List.getElem?_cons_zero, List.getElem?_cons_succ] at c2
       obtain ⟨vb, hvb⟩ : ∃ vb, validB m a (r2 ++ [x]) = vb := ⟨_, rfl⟩
       rw [hvb]
       have HVB := Lib.hid hvb
       clear hvb
       cases vb
       ·
        have hp0 : (0 : Int) ≤ (r2.length : Int) + 1 - 1 := by omega
        have hp1 : (r2.length : Int) + 1 - 1 ≤ (k9 : Int) := by omega
        have hp2 : (r2.length : Int) + 1 - 1 = (r2.length : Int) := by omega
        have hp3 : (r2.length : Int) ≤ (k9 : Int) := by omega
        go_wp2_with fail
        go_roundg (2 - (j + 1))
        case measure => omega
        case rel => exact ⟨j + 1, some ⟨b9, 0, none⟩, k9, r2, by omega, by omega, rfl, by go_num, B5.out.setCell (Nat.le_refl _) _, Q5.out.set 2 _, M5.out.pop.set Q5.out (by decide) _, HF1.out, by omega⟩
       ·
        go_wp2_with fail
        go_roundg (2 - (j + 1))
        case measure => omega
        case rel => exact ⟨j + 1, some ⟨b9, 0, none⟩, k9, r2 ++ [x], by omega, by omega, rfl, by go_num, B5.out, by rw [hl9]; exact Q5.out, by rw [hl9]; exact M5.out, (valid_iff.1 HVB.out).fine, by rw [hl9]; omega⟩
     ·
      have h3' : ¬ (j : Int) < 2 := by omega
      go_wp2
      go_meet
      exact ⟨A', k', r2, HB1.out, HQ1.out, HM1.out, HF1.out, by omega⟩
    ·
     have hlt' : ¬ (j : Int) < (n : Int) := by omega
     go_wp2
     go_meet
     exact ⟨A', k', r2, HB1.out, HQ1.out, HM1.out, HF1.out, by omega⟩
  case rest =>
   obtain ⟨A', k', r2, hB, hQ, hM, hF, hl⟩ := hcut
   clear HB HQ HM HF
   have hT := PMT.out.keep hB (by omega)
   have r0 := hT.cell 0
   have r1 := hT.cell 1
   have r2' := hT.cell 2
   have s0 := hT.free 0
   have s1 := hT.free 1
   have s2 := hT.free 2
   have q0 := hQ.cell 0
   have q1 := hQ.cell 1
   have q2 := hQ.cell 2
   have qf2 := hQ.free 2
   simp only [List.getElem?_toArray, List.getElem?_cons_zero, List.getElem?_cons_succ] at r0 r1 r2' q0 q1 q2
   have HT := Lib.hid hT
   have HB := Lib.hid hB
   have HQ := Lib.hid hQ
   have HM := Lib.hid hM
   have HF := Lib.hid hF
   clear hT hB hQ hM hF
   by_cases h0 : r2.length = 0
   ·
    have h0' : ((r2.length : Int) == 0) = true := by rw [h0]; rfl
    have HB2 : Hid (Below q w1 (wc.setCell ⟨q, 2, none⟩ (.slice A1 rs.length k1))) := HB.out.setCell (Nat.le_refl _) _
    have HT2 : Hid (Blk (wc.setCell ⟨q, 2, none⟩ (.slice A1 rs.length k1)) (g + 1) 30 #[.int .i64 0, .int .u8 0, .slice none 0 0]) := (Below.heap_setCell _ _ _ _ (by show g + 1 ≠ q; omega)).trans HT.out
    have HM2 : Hid (MadeB (wc.setCell ⟨q, 2, none⟩ (.slice A1 rs.length k1)) g g (.slice A1 rs.length k1) rs) := hM0.out.keep (by rw [hq]; exact HB2.out)
    have hBw : Below g w (wc.setCell ⟨q, 2, none⟩ (.slice A1 rs.length k1)) := PMB.out.trans (HB2.out.mono (by omega))
    go_wp2_with fail
    refine bodyPost_ret (v := .agg #[.int .i64 m, .int .u8 a, .slice A1 rs.length k1]) (by simp [results, Try.results17, go_sem, r0, r1, r2']) rfl ⟨m, a, rs, _, rfl, ?_, HG.out, by omega, hBM, hBA, ?_⟩
    ·
     rw [hg]
     exact MadeB.one (MadeB.set (MadeB.set (MadeB.set HM2.out HT2.out (by decide) _) (HT2.out.set 0 _) (by decide) _) ((HT2.out.set 0 _).set 1 _) (by decide) _) (Nat.le_refl _)
    ·
     rw [hg]
     exact ((hBw.setCell (by show g ≤ g + 1; omega) _).setCell (by show g ≤ g + 1; omega) _).setCell (by show g ≤ g + 1; omega) _
   ·
    have h0' : ((r2.length : Int) == 0) = false := beq_eq_false_iff_ne.2 (by omega)
    have hBw : Below g w wc := PMB.out.trans (HB.out.mono (by omega))
    go_wp2_with fail
    refine bodyPost_ret (v := .agg #[.int .i64 m, .int .u8 a, .slice A' r2.length k']) (by simp [results, Try.results17, go_sem, r0, r1, r2']) rfl ⟨m, a, r2, _, rfl, ?_, HF.out.good HG.out (by omega) (by omega), hl, hBM, hBA, ?_⟩
    ·
     rw [hg]
     exact MadeB.one (MadeB.set (MadeB.set (MadeB.set HM.out HT.out (by decide) _) (HT.out.set 0 _) (by decide) _) ((HT.out.set 0 _).set 1 _) (by decide) _) (by omega)
    ·
     rw [hg]
     exact ((hBw.setCell (by show g ≤ g + 1; omega) _).setCell (by show g ≤ g + 1; omega) _).setCell (by show g ≤ g + 1; omega) _
end Go.Proofs.Ytpkdlljefkbmpaa
