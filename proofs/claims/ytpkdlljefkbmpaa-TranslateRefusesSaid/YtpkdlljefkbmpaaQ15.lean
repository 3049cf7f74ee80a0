/- Merged by program: Gr1 Inv5 Gr2 Inv6 Gr3 RawUp Gr4 -/
import Derived.Test.YtpkdlljefkbmpaaQ14
import Derived.Maps.OwnSet
import Derived.Maps.AppendAt
import Derived.Maps.Views
import Derived.DeepKeys4
import Derived.Test.YtpkdlljefkbmpaaQ13
import Derived.BigRegion
import Derived.Deep.Cut
import Derived.Deep.CutRange
import Derived.Test.YtpkdlljefkbmpaaQ11
import Derived.Deep.LoopGhost
import Derived.Deep.CutBlock

/-! Package automaton: the states that a table reaches, as a list and as a map's keys. -/
namespace Go.Proofs.Ytpkdlljefkbmpaa
open Go.RowKit Go.Maps

/-- A state as a map's key reads. -/
def keyS (s : St) : Lit := .string (keyBytes [.int .i64 s.mode, .int .i64 s.last, .int .u8 s.need])
theorem st_wide : (match Try.prog.underlying 47 with | some (.array _ _) | some (.struct _) => true | _ => false) = true := by kernel_rfl
set_option maxRecDepth 10000 in
theorem law : Keyed Try.prog 47 := Keyed.of_law (deep_law_laid (by kernel_rfl) (m := 3) (by omega) (of_decide_eq_true (by kernel_rfl)) (by kernel_rfl) st_wide)
theorem st_isS : ∃ fs, Try.prog.underlying 47 = some (.struct fs) := ⟨_, Try.underlying47⟩
theorem keyS_of (s : St) (h : s.fits) : keyOf Try.prog 47 s.val = some (keyS s) := by
  have hk : Try.prog.keyType 47 = true := by kernel_rfl
  have hf : s.val.formed Try.prog 47 = true := by
    obtain ⟨fs, hu⟩ := st_isS
    have hc : Try.prog.cellsOf 47 = 3 := by kernel_rfl
    simp [Value.formed, hu, hc, St.val]
  obtain ⟨d, hd⟩ : ∃ d, Try.prog.types.size = d + 1 := ⟨Try.prog.types.size - 1, by have : 0 < Try.prog.types.size := of_decide_eq_true (by kernel_rfl); omega⟩
  have c3 : Try.prog.cellsOf 3 = 1 := by kernel_rfl
  have c5 : Try.prog.cellsOf 5 = 1 := by kernel_rfl
  have c26 : Try.prog.cellsOf 47 = 3 := by kernel_rfl
  have w0 : (Lit.int .i64 s.mode).wf = true := WalkArith.wf_i64 (by have := h.1; omega)
  have w1 : (Lit.int .i64 s.last).wf = true := WalkArith.wf_i64 (by have := h.2.1; omega)
  have w2 : (Lit.int .u8 s.need).wf = true := WalkArith.wf_u8 (by have := h.2.2; omega)
  have hl : Try.prog.keyLits (Try.prog.types.size + 1) 47 s.val.cells.toList = some [.int .i64 s.mode, .int .i64 s.last, .int .u8 s.need] := by
    rw [hd]
    simp [Program.keyLits, Try.underlying47, Try.underlying3, Try.underlying5, c3, c5, c26, St.val, Value.cells, w0, w1, w2]
  obtain ⟨fs, hu⟩ := st_isS
  unfold keyOf
  rw [hu]
  dsimp only
  rw [hk, hf, hl]
  rfl
theorem keyS_ne {s t : St} (hs : s.fits) (ht : t.fits) (h : s ≠ t) : keyS s ≠ keyS t := by
  intro e
  have h1 := keyS_of s hs
  rw [e] at h1
  have h2 := law.inj h1 (keyS_of t ht)
  apply h
  obtain ⟨a, b, c⟩ := s
  obtain ⟨a', b', c'⟩ := t
  simp [St.val] at h2
  simp [h2]
/-- A list with one more state, if it is a new one. -/
def insS (L : List St) (s : St) : List St := if s ∈ L then L else L ++ [s]
def insB (L : List St) (B : List (List Nat)) (s : St) : List (List Nat) := if s ∈ L then B else B ++ [[]]
theorem insS_old {L : List St} {s : St} (h : s ∈ L) : insS L s = L := if_pos h
theorem insS_new {L : List St} {s : St} (h : s ∉ L) : insS L s = L ++ [s] := if_neg h
theorem idx_new {L : List St} {s : St} (h : s ∉ L) : L.idxOf s = L.length := List.idxOf_eq_length h
/-- A map that reads as the places of states in a list. -/
def Tab (D : DataW Unit) (L : List St) : Prop :=
  IsMap D ∧ ∀ s : St, s.fits → Maps.has D (keyS s) = decide (s ∈ L) ∧ (s ∈ L → D.atKey (keyS s) (.lit (.int .i64 0)) = .lit (.int .i64 (L.idxOf s : Nat)))
theorem Tab.nil : Tab (.map []) [] := ⟨isMap_empty, fun s _ => ⟨by simp [Maps.has], fun h => absurd h (by simp)⟩⟩
theorem Tab.put {D : DataW Unit} {L : List St} {s : St} (h : Tab D L) (hs : s.fits) (hn : s ∉ L) : Tab (D.put (keyS s) (.lit (.int .i64 (L.length : Nat)))) (L ++ [s]) := by
  obtain ⟨hD, hT⟩ := h
  have hk : WideAt.IsKeyLit (keyS s) := law.key (keyS_of s hs)
  refine ⟨hD.put _ _, fun t ht => ?_⟩
  by_cases e : t = s
  · subst e
    refine ⟨by rw [has_put_same hD hk]; simp, fun _ => ?_⟩
    rw [atKey_put_same hD hk, List.idxOf_append, if_neg hn]
    simp
  · have hne := keyS_ne ht hs e
    obtain ⟨h1, h2⟩ := hT t ht
    refine ⟨by rw [has_put_other hne, h1]; simp [e], fun hm => ?_⟩
    have hm2 : t ∈ L := by simpa [e] using hm
    rw [atKey_put_other hne, h2 hm2, List.idxOf_append, if_pos hm2]
end Go.Proofs.Ytpkdlljefkbmpaa

/-! A region that draws its order, some of whose operations have been taken already: the others ahead of the tail by one invariant, each once. -/
namespace Go.Proofs.Ytpkdlljefkbmpaa
open Go.RowKit

theorem covered2 {ops : Array Oper} {N : Nat} {b J : Nat → Bool} (hN : N < ops.size)
    (hcov : (List.range N).all (fun i => J i || (List.range (N + 1)).any fun k => decide (i < k) && (depsOf ops k).contains i) = true)
    (hJ : ∀ i, J i = true → b i = true) (hc : ClosedB ops b) (hb : ∀ j, (depsOf ops N).contains j = true → b j = true) : ∀ i, i < N → b i = true := by
  have key : ∀ n i, i < N → N ≤ i + n → b i = true := by
    intro n
    induction n with
    | zero => intro i h1 h2; omega
    | succ n ih =>
      intro i h1 h2
      have h := List.all_eq_true.1 hcov i (List.mem_range.2 h1)
      rw [Bool.or_eq_true] at h
      rcases h with h | h
      · exact hJ i h
      obtain ⟨k, hk, hd⟩ := List.any_eq_true.1 h
      simp only [Bool.and_eq_true, decide_eq_true_eq] at hd
      have hk' := List.mem_range.1 hk
      by_cases hkN : k = N
      · subst hkN; exact hb i hd.2
      · exact hc k (by omega) (ih k (by omega) (by omega)) i hd.2
  intro i hi
  exact key N i hi (by omega)
theorem wpAny_head {P : Program} {ops : Array Oper} {Q : Exit → Act → World → Prop} {d : List Deferred} {w0 : World} {fuel0 : Nat} {listed0 : Array Bool} (N k : Nat) (J : Nat → Bool)
    (slots : (Nat → Value) → List Value) (S : (Nat → Value) → World → Prop) (φ : Nat → Value → World → Prop) (y0 : Nat → Value)
    (hsz : ops.size = N + (k + 1))
    (hac : (List.range ops.size).all (fun i => (depsOf ops i).all (· < i)) = true)
    (hcov : (List.range N).all (fun i => J i || (List.range (N + 1)).any fun k => decide (i < k) && (depsOf ops k).contains i) = true)
    (hlast : (List.range k).all (fun j => (depsOf ops (N + 1 + j)).contains N) = true)
    (hmono : ∀ i v w w', φ i v w → Below w.heap.size w w' → φ i v w')
    (hls : listed0.size = ops.size) (hl0 : (List.range ops.size).all (fun i => listed0.getD i false == J i) = true) (hJc : (List.range ops.size).all (fun i => !J i || (depsOf ops i).all J) = true) (hJN : (List.range k).all (fun j => !J (N + 1 + j)) = true) (hJN0 : J N = false) (hJb : ∀ i, ops.size ≤ i → J i = false)
    (hJφ : ∀ i, J i = true → ∀ v w, φ i v w) (hcnt0 : listed0.toList.count false ≤ fuel0)
    (hS : S y0 w0)
    (rs : List Nat) (hrs : (List.range N).filter (fun i => !J i) = rs)
    (hop : ∀ i ∈ rs, ∀ (y : Nat → Value) (w : World) (K : Act → World → Prop), S y w → (∀ j, (depsOf ops i).contains j = true → φ j (y j) w) →
      (∀ v w', S (upd y i v) w' → φ i v w' → Below w.heap.size w w' → K ⟨(slots (upd y i v)).toArray, d⟩ w') → wpOp P ops Q i K ⟨(slots y).toArray, d⟩ w)
    (hend : ∀ (y : Nat → Value) (w : World) (f : Nat), S y w → (∀ i, i < N → φ i (y i) w) → wpAny P .any ops Q (f + (k + 1)) (frontL (N + (k + 1)) N) ⟨(slots y).toArray, d⟩ w) :
    wpAny P .any ops Q fuel0 listed0 ⟨(slots y0).toArray, d⟩ w0 := by
  have hl0' : ∀ i, listed0.getD i false = J i := fun i => by
    by_cases h : i < ops.size
    · simpa using List.all_eq_true.1 hl0 i (List.mem_range.2 h)
    · rw [hJb i (by omega)]; simp [show ¬ i < listed0.size by omega]
  have hlt : ∀ i, i < ops.size → ∀ j, (depsOf ops i).contains j = true → j < i := by
    intro i hi j hj
    have h1 := List.all_eq_true.1 hac i (List.mem_range.2 hi)
    simpa using List.all_eq_true.1 h1 j (by simpa using hj)
  have hacE : ∀ (i : Nat) (o : Oper), ops[i]? = some o → ∀ e ∈ o.after, Region.binds .any e = true → e.on < i := by
    intro i o ho e he hb
    exact hlt i (Array.getElem?_eq_some_iff.1 ho).1 _ (mem_deps ho he hb)
  have main : ∀ (fuel : Nat) (listed : Array Bool) (a : Act) (w : World), listed.size = ops.size → (∀ i, J i = true → listed.getD i false = true) → (∀ i, N ≤ i → listed.getD i false = false) → ClosedB ops (fun j => listed.getD j false) →
      (∃ y, a = ⟨(slots y).toArray, d⟩ ∧ S y w ∧ ∀ i, i < N → listed.getD i false = true → φ i (y i) w) → listed.toList.count false ≤ fuel → wpAny P .any ops Q fuel listed a w := by
    intro fuel
    induction fuel with
    | zero =>
      intro listed a w hs hJl hN hcl _ hcnt
      exfalso
      have h0 := hN N (Nat.le_refl _)
      have hNlt : N < listed.size := by omega
      have hpos : 0 < listed.toList.count false := by
        rw [List.count_pos_iff]
        have : listed.toList[N]'(by simpa using hNlt) = false := by simpa [hNlt] using h0
        rw [← this]; exact List.getElem_mem _
      omega
    | succ fuel ih =>
      intro listed a w hs hJl hN hcl hy hcnt
      by_cases hall : ∀ i, i < N → listed.getD i false = true
      · obtain ⟨y, rfl, hSw, hφ⟩ := hy
        have hl := frontL_eq hs hall hN
        have hc2 := frontL_count (n := N + (k + 1)) (N := N) (by omega)
        rw [hsz] at hl
        rw [hl, hc2] at hcnt
        rw [hl]
        have hf : fuel + 1 = (fuel - k) + (k + 1) := by omega
        rw [hf]
        exact hend y w _ hSw (fun i hi => hφ i hi (hall i hi))
      · refine ⟨fun hr => absurd (fun i hi => ready_nil hacE hs hr i (by omega)) hall, fun i hi => ?_⟩
        obtain ⟨h0, o, ho, hd⟩ := mem_ready.1 hi
        have hisz : i < ops.size := (Array.getElem?_eq_some_iff.1 ho).1
        have hbi : listed.getD i false = false := by simpa [show i < listed.size by omega] using h0
        have hd' : ∀ o', ops[i]? = some o' → ∀ e ∈ o'.after, Region.binds .any e = true → listed.getD e.on false = true := fun o' ho' e he hb => by rw [ho] at ho'; cases ho'; exact hd e he hb
        have hiN : i < N := by
          rcases Nat.lt_or_ge i N with g | g
          · exact g
          · exfalso
            by_cases hie : i = N
            · subst hie
              exact hall (covered2 (by omega) hcov hJl hcl (fun j hj => of_deps (b := fun j => listed.getD j false) hisz hd' hj))
            · have hc := List.all_eq_true.1 hlast (i - (N + 1)) (List.mem_range.2 (by omega))
              rw [show N + 1 + (i - (N + 1)) = i by omega] at hc
              have := of_deps (b := fun j => listed.getD j false) hisz hd' hc
              have h2 := hN N (Nat.le_refl _)
              rw [h2] at this; cases this
        obtain ⟨y, rfl, hSw, hφ⟩ := hy
        have hcs := count_set_lt (listed := listed) (i := i) (by omega) h0
        have e : ∀ j, (listed.setIfInBounds i true).getD j false = if j = i then true else listed.getD j false := by
          intro j
          by_cases hj : j = i
          · subst hj; simp [show j < listed.size by omega]
          · rw [getD_set_ne false (Ne.symm hj), if_neg hj]
        have hcl' : ClosedB ops (fun j => (listed.setIfInBounds i true).getD j false) := by
          intro q hq hbq j hj
          simp only [e] at hbq ⊢
          by_cases hji : j = i
          · simp [hji]
          · rw [if_neg hji]
            by_cases hqi : q = i
            · subst hqi; exact of_deps (b := fun j => listed.getD j false) hisz hd' hj
            · rw [if_neg hqi] at hbq; exact hcl q hq hbq j hj
        refine hop i (by rw [← hrs]; refine List.mem_filter.2 ⟨List.mem_range.2 hiN, ?_⟩; cases hJi : J i with | false => rfl | true => have := hJl i hJi; rw [hbi] at this; cases this) y w _ hSw (fun j hj => hφ j (by have := hlt i hisz j hj; omega) (of_deps (b := fun j => listed.getD j false) hisz hd' hj)) (fun v w' hS' hv hb' => ?_)
        refine ih _ _ _ (by simpa using hs) (fun j hj => by rw [e]; split; rfl; exact hJl j hj) (fun j hj => by rw [e, if_neg (by omega)]; exact hN j hj) hcl' ⟨upd y i v, rfl, hS', fun j hjN hj => ?_⟩ (by omega)
        by_cases hji : j = i
        · subst hji
          have : upd y j v j = v := by simp [upd]
          rw [this]; exact hv
        · have : upd y i v j = y j := by simp [upd, hji]
          rw [this]
          rw [e, if_neg hji] at hj
          exact hmono j _ w w' (hφ j hjN hj) hb'
  refine main _ _ _ _ hls (fun i hi => by rw [hl0' i]; exact hi) (fun i hi => ?_) (fun i hi hb j hj => ?_) ⟨y0, rfl, hS, fun i _ hb => hJφ i (by rw [← hl0' i]; exact hb) _ _⟩ hcnt0
  · rw [hl0' i]
    by_cases hlt2 : i < ops.size
    · by_cases hiN : i = N
      · subst hiN; exact hJN0
      · have := List.all_eq_true.1 hJN (i - (N + 1)) (List.mem_range.2 (by omega))
        rw [show N + 1 + (i - (N + 1)) = i by omega] at this
        simpa using this
    · exact hJb i (by omega)
  · show listed0.getD j false = true
    have hb : listed0.getD i false = true := hb
    rw [hl0' j]
    rw [hl0' i] at hb
    have := List.all_eq_true.1 hJc i (List.mem_range.2 hi)
    rw [hb] at this
    simp only [Bool.not_true, Bool.false_or] at this
    exact List.all_eq_true.1 this j (by simpa using hj)
/-- append onto a row of the call's own, as one step of a region that draws; where the new slice lies. -/
theorem wpOp_append_at {P : Program} {ops : Array Oper} {j : Nat} {o : Oper} {a : Act} {w : World} {K : Act → World → Prop} {Q : Exit → Act → World → Prop} (hj : ops[j]? = some o) (hgd : o.guard = none) (s x : Operand) (t : TypeId)
    (ho : o.op = .call { callee := .builtin .append, args := #[s, x], argTypes := #[t, t] })
    (e : TypeId) (i : TypeInfo) (z : Value) (size bytes : Nat) (ht : P.underlying t = some (.slice e)) (hi : P.info? e = some i) (hz : i.zero = some z)
    (hsize : i.size = size) (hby : i.bytes = bytes) (hzs : z.cells.size = size) (hsz : 0 < size)
    (v : Value) (n : Nat) (xs : List Value) (hs : a.eval s = v) (hown : w.ownsRow 0 e size v n xs)
    (ad : Addr) (m c : Nat) (news : List Value) (hx : a.eval x = .slice (some ad) m c) (hl : news.length = m * size) (hnews : ∀ j u, news[j]? = some u → w.cell? (ad.add j) = some u) (h1 : ∀ u ∈ news, u.oneCell' = true)
    (h63 : n + m ≤ maxLen) (hbytes : (n + m) * bytes ≤ 140737488355328)
    (h : ∀ v' w', w'.ownsRow 0 e size v' (n + m) (xs ++ news) → w.grownBy w' v.ownBlock → (v'.ownBlock = v.ownBlock ∨ v'.ownBlock = some w.heap.size) → K (a.put o.dst v') w') : wpOp P ops Q j K a w := by
  refine wpOp_step hj fun K2 hK2 => ?_
  have hw : Region.wanted o (yielded ops a.tmps) = true := by simp [Region.wanted, hgd]
  rw [if_pos hw]
  obtain ⟨v', w', hr, h2, h3, _, h5⟩ := run_append_own_at (P := P) w 0 t o.type e i z size bytes ht hi hz hsize hby hzs hsz v n xs hown ad m c news hl hnews h1 h63 hbytes (Nat.zero_le _)
  unfold Oper.wp execOp
  simp only [ho, resolve, invoke, builtin, Sem.run_bind, Sem.run_pure, Result.andThen_ok, List.map_toArray, List.map_cons, List.map_nil, hs, hx, hr]
  exact hK2 _ _ (h v' w' h2 h3 h5)
end Go.Proofs.Ytpkdlljefkbmpaa

/-! Package automaton: a graph in memory; the place of a state. -/
namespace Go.Proofs.Ytpkdlljefkbmpaa
open Go.RowKit Go.Maps

def St.cs (s : St) : List Value := [.int .i64 s.mode, .int .i64 s.last, .int .u8 s.need]
/-- A row that lies in none of the blocks K. -/
def NoK (K : Nat → Prop) (v : Value) : Prop := ∀ b, v.ownBlock = some b → ¬ K b
theorem own_move {w w' : World} {base size n : Nat} {e : TypeId} {v : Value} {xs : List Value} (h : w.ownsRow base e size v n xs) (hk : ∀ b, v.ownBlock = some b → w'.heap[b]? = w.heap[b]?) : w'.ownsRow base e size v n xs := by
  obtain ⟨hl, hf⟩ := id h
  refine ⟨hl, ?_⟩
  rcases hf with h0 | ⟨g, cap, cur, rfl, hg, hblk, hr⟩
  · exact .inl h0
  · exact .inr ⟨g, cap, cur, rfl, hg, (hk g rfl).trans hblk, hr⟩
theorem own_blk {w : World} {base size n b : Nat} {e : TypeId} {v : Value} {xs : List Value} (h : w.ownsRow base e size v n xs) (hb : v.ownBlock = some b) : ∃ cur, Blk w b e cur := by
  rcases h.2 with ⟨rfl, _⟩ | ⟨g, cap, cur, rfl, _, hblk, _⟩
  · cases hb
  · obtain rfl : g = b := by simpa [Value.ownBlock] using hb
    exact ⟨cur, hblk⟩
theorem map_move {w w' : World} {P : Program} {k : TypeId} {R : Value → Option (DataW Unit × List MemPlace)} {b n : Nat} {D : DataW Unit} (h : w.ownsMap P k R b n D) (e : w'.heap[b]? = w.heap[b]?) : w'.ownsMap P k R b n D := by
  obtain ⟨es, clock, hb, F, hs, hD⟩ := h
  exact ⟨es, clock, e.trans hb, F, hs, hD⟩
theorem map_blk {w : World} {P : Program} {k t : TypeId} {R : Value → Option (DataW Unit × List MemPlace)} {b n g : Nat} {D : DataW Unit} {row : Array Value} (h : w.ownsMap P k R b n D) (hg : Blk w g t row) : g ≠ b := by
  rintro rfl
  obtain ⟨es, clock, hb, _⟩ := h
  unfold Blk at hg
  rw [hg] at hb
  cases hb
/-- A graph: its states, the places from which rules lead to each, and the map. -/
structure GB (K : Nat → Prop) (w : World) (q mb : Nat) (L : List St) (B : List (List Nat)) (SV BV : Value) (vs : List Value) (D : DataW Unit) : Prop where
  blk : Blk w q 238 #[SV, BV, .map (some mb)]
  kq : ¬ K q
  km : ¬ K mb
  sv : w.ownsRow 0 47 3 SV L.length (L.flatMap St.cs)
  ks : NoK K SV
  bv : w.ownsRow 0 43 1 BV B.length vs
  kb : NoK K BV
  len : B.length = L.length
  row : ∀ (k : Nat) (v : Value) (l : List Nat), vs[k]? = some v → B[k]? = some l → w.ownsRow 0 3 1 v l.length (l.map fun i : Nat => .int .i64 i)
  kr : ∀ (k : Nat) (v : Value), vs[k]? = some v → NoK K v
  sep : ∀ (j k : Nat) (v u : Value) (b : Nat), j ≠ k → vs[j]? = some v → vs[k]? = some u → v.ownBlock = some b → u.ownBlock ≠ some b
  map : w.ownsMap Try.prog 47 (plainElem Try.prog 3) mb L.length D
  tab : Tab D L
theorem GB.vlen {K : Nat → Prop} {w : World} {q mb : Nat} {L : List St} {B : List (List Nat)} {SV BV : Value} {vs : List Value} {D : DataW Unit} (h : GB K w q mb L B SV BV vs D) : vs.length = B.length := by
  have := h.bv.1; omega
/-- The world turns in blocks of K and in new ones alone. -/
theorem GB.move {K : Nat → Prop} {w w' : World} {q mb : Nat} {L : List St} {B : List (List Nat)} {SV BV : Value} {vs : List Value} {D : DataW Unit} (h : GB K w q mb L B SV BV vs D) (hk : ∀ b, b < w.heap.size → ¬ K b → w'.heap[b]? = w.heap[b]?) : GB K w' q mb L B SV BV vs D := by
  have hrow : ∀ {base size n : Nat} {e : TypeId} {v : Value} {xs : List Value}, w.ownsRow base e size v n xs → NoK K v → w'.ownsRow base e size v n xs := fun ho hn => own_move ho fun b hb => by
    obtain ⟨cur, hc⟩ := own_blk ho hb
    exact hk b hc.lt (hn b hb)
  have hvl := h.vlen
  refine ⟨(hk q h.blk.lt h.kq).trans h.blk, h.kq, h.km, hrow h.sv h.ks, h.ks, hrow h.bv h.kb, h.kb, h.len, fun k v l hv hl => hrow (h.row k v l hv hl) (h.kr k v hv), h.kr, h.sep, map_move h.map (hk mb h.map.lt h.km), h.tab⟩
/-- More blocks to keep: new ones. -/
theorem GB.more {K K' : Nat → Prop} {w : World} {q mb : Nat} {L : List St} {B : List (List Nat)} {SV BV : Value} {vs : List Value} {D : DataW Unit} (h : GB K w q mb L B SV BV vs D) (hk : ∀ b, K' b → K b ∨ w.heap.size ≤ b) : GB K' w q mb L B SV BV vs D := by
  have hno : ∀ {base size n : Nat} {e : TypeId} {v : Value} {xs : List Value}, w.ownsRow base e size v n xs → NoK K v → NoK K' v := fun ho hn b hb hK' => by
    obtain ⟨cur, hc⟩ := own_blk ho hb
    rcases hk b hK' with g | g
    · exact hn b hb g
    · have := hc.lt; omega
  have hn1 : ∀ b, b < w.heap.size → ¬ K b → ¬ K' b := fun b hb hnk hK' => by
    rcases hk b hK' with g | g
    · exact hnk g
    · omega
  have hvl := h.vlen
  refine ⟨h.blk, hn1 q h.blk.lt h.kq, hn1 mb h.map.lt h.km, h.sv, hno h.sv h.ks, h.bv, hno h.bv h.kb, h.len, h.row, fun k v hv => ?_, h.sep, h.map, h.tab⟩
  have hk1 : k < vs.length := (List.getElem?_eq_some_iff.1 hv).1
  exact hno (h.row k v (B[k]'(by omega)) hv (List.getElem?_eq_getElem (by omega))) (h.kr k v hv)
def GA (K : Nat → Prop) (w : World) (q mb : Nat) (L : List St) (B : List (List Nat)) : Prop := ∃ SV BV vs D, GB K w q mb L B SV BV vs D
def KeptK (K : Nat → Prop) (w w' : World) : Prop := w'.os = w.os ∧ w'.tape = w.tape ∧ w'.output = w.output ∧ w.heap.size ≤ w'.heap.size ∧ ∀ b, K b → w'.heap[b]? = w.heap[b]?
theorem zeroE (w : World) : (zeroValue 3).run Try.prog w = .ok (.int .i64 0) w := by kernel_rfl
theorem look_run {K : Nat → Prop} {w : World} {q mb : Nat} {L : List St} {B : List (List Nat)} {SV BV : Value} {vs : List Value} {D : DataW Unit} (h : GB K w q mb L B SV BV vs D) {s : St} (hs : s.fits) :
    ∃ c : Int, (Instr.lookup 150 (.map (some mb)) s.val true).run Try.prog w = .ok (.tuple #[.int .i64 c, .bool (decide (s ∈ L))]) w ∧ (s ∈ L → c = (L.idxOf s : Nat)) := by
  have hw0 : (Lit.int .i64 0).wf = true := by decide
  obtain ⟨v, ps, hrun, hv⟩ := h.map.look_ok law Try.underlying150 (zeroE w) (plainElem_int Try.underlying3 hw0) (keyS_of s hs)
  obtain ⟨c, rfl, hc, _⟩ := plainElem_int_inv Try.underlying3 hv
  obtain ⟨h1, h2⟩ := h.tab.2 s hs
  rw [h1] at hrun
  refine ⟨c, hrun, fun hm => ?_⟩
  rw [h2 hm] at hc
  simp at hc
  exact hc.1.symm
theorem own_shape {w : World} {base size n : Nat} {e : TypeId} {v : Value} {xs : List Value} (h : w.ownsRow base e size v n xs) : ∃ A k, v = .slice A n k := by
  rcases h.2 with ⟨rfl, rfl⟩ | ⟨g, cap, cur, rfl, _⟩
  · exact ⟨_, _, rfl⟩
  · exact ⟨_, _, rfl⟩
theorem store_run {K : Nat → Prop} {w : World} {q mb : Nat} {L : List St} {B : List (List Nat)} {SV BV : Value} {vs : List Value} {D : DataW Unit} (h : GB K w q mb L B SV BV vs D) {s : St} (hs : s.fits) (hl : L.length < 4000) :
    ∃ w', (Instr.mapUpdate 150 (.map (some mb)) s.val (.int .i64 (L.length : Nat))).run Try.prog w = .ok () w' ∧ w'.ownsMap Try.prog 47 (plainElem Try.prog 3) mb (L.length + 1) (D.put (keyS s) (.lit (.int .i64 (L.length : Nat)))) ∧ w.grownBy w' (some mb) := by
  obtain ⟨w', h1, h2, h3⟩ := h.map.store law Try.underlying150 (by unfold maxLen; omega) (keyS_of s hs) (plainElem_int Try.underlying3 (WalkArith.wf_i64 (n := (L.length : Nat)) (by omega)))
  exact ⟨w', h1, h2, h3.grown⟩
theorem info_int : (Try.prog.info? 3).map (fun i => (i.zero, i.size, i.bytes)) = some (some (.int .i64 0), 1, 8) := by kernel_rfl
theorem info_st : (Try.prog.info? 47).map (fun i => (i.zero, i.size, i.bytes)) = some (some (.agg #[.int .i64 0, .int .i64 0, .int .u8 0]), 3, 24) := by kernel_rfl
theorem info_ints : (Try.prog.info? 43).map (fun i => (i.zero, i.size, i.bytes)) = some (some (.slice none 0 0), 1, 24) := by kernel_rfl
/-- append of one state. -/
theorem app_st {w : World} {v : Value} {n : Nat} {xs : List Value} (ty : TypeId) (h : w.ownsRow 0 47 3 v n xs) (hn : n < 4000) (mo la ne : Int) :
    ∃ v' w', (Builtin.append_ #[112, 112] ty #[v, .slice (some ⟨w.heap.size, 0, none⟩) 1 1]).run Try.prog (w.alloc (.cells #[.int .i64 mo, .int .i64 la, .int .u8 ne] 47)) = .ok v' w' ∧ w'.ownsRow 0 47 3 v' (n + 1) (xs ++ [.int .i64 mo, .int .i64 la, .int .u8 ne]) ∧ w.grownBy w' v.ownBlock ∧ (v'.ownBlock = v.ownBlock ∨ ∃ b, v'.ownBlock = some b ∧ w.heap.size ≤ b) := by
  obtain ⟨i0, hi, hz0, hz1, hz2⟩ := info_parts info_st
  have hc : ∀ (j : Nat) (u : Value), [Value.int .i64 mo, .int .i64 la, .int .u8 ne][j]? = some u → (w.alloc (.cells #[.int .i64 mo, .int .i64 la, .int .u8 ne] 47)).cell? ((⟨w.heap.size, 0, none⟩ : Addr).add j) = some u := fun j u hj => by
    rw [add_zero_addr, cell_of_row _ _ _ _ _ _ (Go.heap_alloc_new _ _)]
    simpa using hj
  obtain ⟨v', w', h1, h2, h3, _, h5⟩ := run_append_own_at (P := Try.prog) (w.alloc (.cells #[.int .i64 mo, .int .i64 la, .int .u8 ne] 47)) 0 112 ty 47 i0 (.agg #[.int .i64 0, .int .i64 0, .int .u8 0]) 3 24 Try.underlying112 hi hz0 hz1 hz2 rfl (by decide) v n xs (h.alloc _) ⟨w.heap.size, 0, none⟩ 1 1 [.int .i64 mo, .int .i64 la, .int .u8 ne] rfl hc (by simp [Value.oneCell']) (by unfold maxLen; omega) (by omega) (by omega)
  refine ⟨v', w', h1, h2, (World.grownBy_alloc _ _ _).trans h3, ?_⟩
  rcases h5 with h5 | h5
  · exact .inl h5
  · exact .inr ⟨_, h5, by simp⟩
/-- append of one empty list. -/
theorem app_nil {w : World} {v : Value} {n : Nat} {xs : List Value} (ty : TypeId) (h : w.ownsRow 0 43 1 v n xs) (hn : n < 4000) :
    ∃ v' w', (Builtin.append_ #[72, 72] ty #[v, .slice (some ⟨w.heap.size, 0, none⟩) 1 1]).run Try.prog (w.alloc (.cells #[.slice none 0 0] 43)) = .ok v' w' ∧ w'.ownsRow 0 43 1 v' (n + 1) (xs ++ [.slice none 0 0]) ∧ w.grownBy w' v.ownBlock ∧ (v'.ownBlock = v.ownBlock ∨ ∃ b, v'.ownBlock = some b ∧ w.heap.size ≤ b) := by
  obtain ⟨i0, hi, hz0, hz1, hz2⟩ := info_parts info_ints
  obtain ⟨v', w', h1, h2, h3, _, h5⟩ := run_append_own_at (P := Try.prog) (w.alloc (.cells #[.slice none 0 0] 43)) 0 72 ty 43 i0 (.slice none 0 0) 1 24 Try.underlying72 hi hz0 hz1 hz2 rfl (by decide) v n xs (h.alloc _) ⟨w.heap.size, 0, none⟩ 1 1 [.slice none 0 0] rfl (cell_one_new _ _ _) (by simp [Value.oneCell']) (by unfold maxLen; omega) (by omega) (by omega)
  refine ⟨v', w', h1, h2, (World.grownBy_alloc _ _ _).trans h3, ?_⟩
  rcases h5 with h5 | h5
  · exact .inl h5
  · exact .inr ⟨_, h5, by simp⟩
theorem place_end {K : Nat → Prop} {q mb : Nat} {L : List St} {B : List (List Nat)} {s : St} {V w3 w4 : World} {SV BV v2 v4 : Value} {vs : List Value} {D : DataW Unit} (hK : ∀ b, K b → b < V.heap.size) (hG : GB K V q mb L B SV BV vs D) (hs : s.fits) (hn : s ∉ L)
    (o3 : w3.ownsRow 0 47 3 v2 (L.length + 1) (L.flatMap St.cs ++ s.cs)) (m3 : w3.ownsMap Try.prog 47 (plainElem Try.prog 3) mb (L.length + 1) (D.put (keyS s) (.lit (.int .i64 (L.length : Nat)))))
    (f3 : ∀ b, b < V.heap.size → b ≠ mb → b ≠ q → SV.ownBlock ≠ some b → w3.heap[b]? = V.heap[b]?) (s3 : V.heap.size ≤ w3.heap.size) (u3 : w3.os = V.os ∧ w3.tape = V.tape ∧ w3.output = V.output)
    (l2 : v2.ownBlock = SV.ownBlock ∨ ∃ b, v2.ownBlock = some b ∧ V.heap.size ≤ b) (b3 : w3.ownsRow 0 43 1 BV B.length vs)
    (o4 : w4.ownsRow 0 43 1 v4 (L.length + 1) (vs ++ [.slice none 0 0])) (g4 : w3.grownBy w4 BV.ownBlock) (q4 : Blk w4 q 238 #[v2, BV, .map (some mb)])
    (l4 : v4.ownBlock = BV.ownBlock ∨ ∃ b, v4.ownBlock = some b ∧ V.heap.size ≤ b) :
    GA K (w4.setCell ⟨q, 1, none⟩ v4) q mb (insS L s) (insB L B s) ∧ KeptK K V (w4.setCell ⟨q, 1, none⟩ v4) := by
  rw [insS_new hn, insB, if_neg hn]
  have hqm := map_blk hG.map hG.blk
  have key : ∀ b, b < V.heap.size → b ≠ mb → b ≠ q → SV.ownBlock ≠ some b → BV.ownBlock ≠ some b → (w4.setCell ⟨q, 1, none⟩ v4).heap[b]? = V.heap[b]? := fun b hb h1 h2 h3 h4 =>
    ((Below.heap_setCell w4 ⟨q, 1, none⟩ v4 b h2).trans (g4.block b (by omega) (Ne.symm h4))).trans (f3 b hb h1 h2 h3)
  have hnok : ∀ {v u : Value}, NoK K u → (v.ownBlock = u.ownBlock ∨ ∃ b, v.ownBlock = some b ∧ V.heap.size ≤ b) → NoK K v := fun hu hv b hb hKb => by
    rcases hv with h | ⟨b', h, hb'⟩
    · exact hu b (by rw [← h]; exact hb) hKb
    · rw [hb] at h
      injection h with h
      have := hK b hKb
      omega
  have hin : ∀ (k : Nat) (v : Value) (b : Nat), vs[k]? = some v → v.ownBlock = some b → b < V.heap.size ∧ b ≠ mb ∧ b ≠ q ∧ SV.ownBlock ≠ some b ∧ BV.ownBlock ≠ some b := fun k v b hv hb => by
    have hk1 : k < vs.length := (List.getElem?_eq_some_iff.1 hv).1
    have hvl := hG.vlen
    obtain ⟨cur, hc⟩ := own_blk (hG.row k v (B[k]'(by omega)) hv (List.getElem?_eq_getElem (by omega))) hb
    refine ⟨hc.lt, map_blk hG.map hc, Blk.type_ne hc hG.blk (by decide), own_ne3 hG.sv hc (by decide), own_ne3 hG.bv hc (by decide)⟩
  have hvl := hG.vlen
  refine ⟨⟨v2, v4, vs ++ [.slice none 0 0], D.put (keyS s) (.lit (.int .i64 (L.length : Nat))), ?_⟩, ?_⟩
  · refine ⟨q4.set 1 v4, hG.kq, hG.km, ?_, hnok hG.ks l2, ?_, hnok hG.kb l4, by simp [hG.len], ?_, ?_, ?_, ?_, hG.tab.put hs hn⟩
    · have h4 : w4.ownsRow 0 47 3 v2 (L.length + 1) (L.flatMap St.cs ++ s.cs) := own_move o3 fun b hb => by
        obtain ⟨cur, hc⟩ := own_blk o3 hb
        exact g4.block b hc.lt (own_ne3 b3 hc (by decide)).symm
      have h5 := own_set (i := 1) h4 q4 (by decide) v4
      simpa using h5
    · have h5 := own_set (i := 1) o4 q4 (by decide) v4
      simpa [hG.len] using h5
    · intro k v l hv hl
      by_cases hk : k < vs.length
      · rw [List.getElem?_append_left hk] at hv
        rw [List.getElem?_append_left (by omega)] at hl
        refine own_move (hG.row k v l hv hl) fun b hb => ?_
        obtain ⟨h1, h2, h3, h4, h5⟩ := hin k v b hv hb
        exact key b h1 h2 h3 h4 h5
      · rw [List.getElem?_append_right (by omega)] at hv
        rw [List.getElem?_append_right (by omega)] at hl
        obtain ⟨hk0, rfl⟩ : k - vs.length = 0 ∧ .slice none 0 0 = v := by
          cases hd : k - vs.length with
          | zero => rw [hd] at hv; simpa using hv
          | succ n => rw [hd] at hv; simp at hv
        rw [show k - B.length = 0 by omega] at hl
        simp at hl
        subst hl
        exact World.ownsRow_nil _ _ _ _
    · intro k v hv
      by_cases hk : k < vs.length
      · rw [List.getElem?_append_left hk] at hv
        exact hG.kr k v hv
      · rw [List.getElem?_append_right (by omega)] at hv
        cases hd : k - vs.length with
        | zero =>
          rw [hd] at hv
          obtain rfl : .slice none 0 0 = v := by simpa using hv
          intro b hb; cases hb
        | succ n => rw [hd] at hv; simp at hv
    · intro j k v u b hjk hv hu hb
      have hnil : ∀ (i : Nat) (x : Value), ¬ i < vs.length → (vs ++ [Value.slice none 0 0])[i]? = some x → x.ownBlock = none := fun i x hi hx => by
        rw [List.getElem?_append_right (by omega)] at hx
        cases hd : i - vs.length with
        | zero =>
          rw [hd] at hx
          obtain rfl : Value.slice none 0 0 = x := by simpa using hx
          rfl
        | succ n => rw [hd] at hx; simp at hx
      by_cases hj : j < vs.length
      · by_cases hk : k < vs.length
        · rw [List.getElem?_append_left hj] at hv
          rw [List.getElem?_append_left hk] at hu
          exact hG.sep j k v u b hjk hv hu hb
        · rw [hnil k u hk hu]; simp
      · rw [hnil j v hj hv] at hb; cases hb
    · have h4 := map_move m3 (g4.block mb m3.lt (fun e => by
        obtain ⟨cur, hc⟩ := own_blk b3 e.symm
        exact map_blk m3 hc rfl))
      have h5 := map_move (w' := w4.setCell ⟨q, 1, none⟩ v4) h4 (Below.heap_setCell w4 ⟨q, 1, none⟩ v4 mb (fun e => hqm e.symm))
      simpa using h5
  · refine ⟨g4.os.trans u3.1, g4.tape.trans u3.2.1, g4.output.trans u3.2.2, ?_, fun b hb => ?_⟩
    · have := g4.size
      simp; omega
    · refine key b (hK b hb) (fun e => hG.km (e ▸ hb)) (fun e => hG.kq (e ▸ hb)) (fun e => hG.ks b e hb) (fun e => hG.kb b e hb)
def phiP5 (n1 : Nat) (SV : Value) (mo la ne : Int) (j : Nat) (v : Value) (w : World) : Prop := match j with
  | 4 => v = SV
  | 5 => v = .agg #[.int .i64 mo, .int .i64 la, .int .u8 ne]
  | 6 => ∃ b, v = .slice (some ⟨b, 0, none⟩) 1 1 ∧ Blk w b 47 #[.int .i64 mo, .int .i64 la, .int .u8 ne] ∧ n1 ≤ b
  | _ => True
theorem Blk.news {w : World} {b : Nat} {t : TypeId} {l : List Value} (h : Blk w b t l.toArray) : ∀ (j : Nat) (u : Value), l[j]? = some u → w.cell? ((⟨b, 0, none⟩ : Addr).add j) = some u := fun j u hj => by
  rw [add_zero_addr, h.cell j]
  simpa using hj
set_option maxRecDepth 10000 in
set_option maxHeartbeats 1000000 in
theorem place_any (K : Nat → Prop) (q mb : Nat) (L : List St) (B : List (List Nat)) (s : St) (w : World) (hK : ∀ b, K b → b < w.heap.size) (h : GA K w q mb L B) (hs : s.fits) (hl : L.length < 4000) :
    Calls Try.prog 177 #[.pointer (some ⟨q, 0, none⟩), s.val] w fun e w' => e = .returned (.int .i64 (L.idxOf s : Nat)) ∧ GA K w' q mb (insS L s) (insB L B s) ∧ KeptK K w w' := by
  obtain ⟨SV, BV, vs, D, hG⟩ := h
  obtain ⟨mo, la, ne⟩ := s
  have HS := Lib.hid hs
  unfold St.val
  dsimp only
  have G1 : Hid (GB K (w.alloc (.cells #[.int .i64 mo, .int .i64 la, .int .u8 ne] 47)) q mb L B SV BV vs D) := hG.move fun b hb _ => (below_box w _ _).block b hb
  have Q1 : Hid (Blk (w.alloc (.cells #[.int .i64 mo, .int .i64 la, .int .u8 ne] 47)) w.heap.size 47 #[.int .i64 mo, .int .i64 la, .int .u8 ne]) := Blk.new _ _ _
  have K1 : Hid (KeptK K w (w.alloc (.cells #[.int .i64 mo, .int .i64 la, .int .u8 ne] 47))) := ⟨rfl, rfl, rfl, by simp, fun b hb => (below_box w _ _).block b (hK b hb)⟩
  have hsz : (w.alloc (.cells #[.int .i64 mo, .int .i64 la, .int .u8 ne] 47)).heap.size = w.heap.size + 1 := by simp
  go_enter Try.func177, Try.ntmps177
  go_upto_region 1 with fail
  generalize w.alloc (.cells #[.int .i64 mo, .int .i64 la, .int .u8 ne] 47) = V at *
  obtain ⟨g, hg⟩ : ∃ g, w.heap.size = g := ⟨_, rfl⟩
  rw [hg] at Q1 hsz ⊢
  obtain ⟨c, hrun, hc⟩ := look_run (w := V.drew) (G1.out.move fun _ _ _ => rfl) hs
  unfold St.val at hrun
  dsimp only at hrun
  have q0 := G1.out.blk.cell 0
  have q1 := G1.out.blk.cell 1
  have q2 := G1.out.blk.cell 2
  have k0 := Q1.out.cell 0
  have k1 := Q1.out.cell 1
  have k2 := Q1.out.cell 2
  simp only [List.getElem?_toArray, List.getElem?_cons_zero, List.getElem?_cons_succ] at q0 q1 q2 k0 k1 k2
  by_cases hm : (⟨mo, la, ne⟩ : St) ∈ L
  · have hc2 := hc hm
    subst hc2
    have hd : decide ((⟨mo, la, ne⟩ : St) ∈ L) = true := decide_eq_true hm
    rw [hd] at hrun
    have HM := Lib.hid hm
    clear hc hm hd hG
    go_region
    have hK2 : KeptK K w V.drew := K1.out
    have hG2 : GA K V.drew q mb (insS L ⟨mo, la, ne⟩) (insB L B ⟨mo, la, ne⟩) := by
      rw [insS_old HM.out, insB, if_pos HM.out]
      exact ⟨SV, BV, vs, D, G1.out.move fun _ _ _ => rfl⟩
    have HE := Lib.hid (And.intro hG2 hK2)
    clear hG2 hK2
    go_wp2_with fail
    go_ret
    exact ⟨rfl, HE.out⟩
  · have hd : decide ((⟨mo, la, ne⟩ : St) ∈ L) = false := decide_eq_false hm
    rw [hd] at hrun
    have HM := Lib.hid hm
    obtain ⟨A, k, rfl⟩ := own_shape G1.out.sv
    clear hc hm hd hG
    go_region
    clear hrun
    go_upto_region 4 with fail
    obtain ⟨w1, hst, hmap, hgr⟩ := store_run (w := V.drew.drew) (G1.out.move fun _ _ _ => rfl) hs hl
    unfold St.val at hst
    dsimp only at hst
    go_region
    go_upto_region 5 with fail
    have hG := G1.out
    obtain ⟨SV, hSV⟩ : ∃ SV, Value.slice A L.length k = SV := ⟨_, rfl⟩
    rw [hSV] at hG
    have hqm := map_blk hG.map hG.blk
    have hq1 : Blk w1 q 238 #[SV, BV, .map (some mb)] := (hgr.block q hG.blk.lt (fun e => hqm (by injection e))).trans hG.blk
    have hgm := map_blk hG.map Q1.out
    have hg1 : Blk w1 g 47 #[.int .i64 mo, .int .i64 la, .int .u8 ne] := (hgr.block g Q1.out.lt (fun e => hgm (by injection e))).trans Q1.out
    have hsv1 : w1.ownsRow 0 47 3 SV L.length (L.flatMap St.cs) := own_move hG.sv fun b hb => by
      obtain ⟨cur, hc⟩ := own_blk hG.sv hb
      exact hgr.block b hc.lt (fun e => map_blk hG.map hc (by injection e))
    have hbv1 : w1.ownsRow 0 43 1 BV B.length vs := own_move hG.bv fun b hb => by
      obtain ⟨cur, hc⟩ := own_blk hG.bv hb
      exact hgr.block b hc.lt (fun e => map_blk hG.map hc (by injection e))
    have a0 := hq1.cell 0
    have d0 := hg1.cell 0
    have d1 := hg1.cell 1
    have d2 := hg1.cell 2
    simp only [List.getElem?_toArray, List.getElem?_cons_zero, List.getElem?_cons_succ] at a0 d0 d1 d2
    have hql := hq1.lt
    have hgl := hg1.lt
    clear hst q0 q1 q2 k0 k1 k2
    rw [hSV]
    refine wp_region_any (by kernel_rfl) ?_
    refine wpAny_take (i := 0) (v := ?_) rfl (by kernel_rfl) (by kernel_rfl) (by kernel_rfl) (fun _ _ _ h => h) (Or.inl ⟨by kernel_rfl, ?_⟩) ?_
    rotate_left
    · (intro W2; go_simp; try with_reducible rfl)
    refine wpAny_take (i := 1) (v := ?_) rfl (by kernel_rfl) (by kernel_rfl) (by kernel_rfl) (fun _ _ _ h => h) (Or.inl ⟨by kernel_rfl, ?_⟩) ?_
    rotate_left
    · (intro W2; go_simp; try with_reducible rfl)
    refine wpAny_take (i := 2) (v := ?_) rfl (by kernel_rfl) (by kernel_rfl) (by kernel_rfl) (fun _ _ _ h => h) (Or.inl ⟨by kernel_rfl, ?_⟩) ?_
    rotate_left
    · (intro W2; go_simp; try with_reducible rfl)
    refine wpAny_take (i := 3) (v := ?_) rfl (by kernel_rfl) (by kernel_rfl) (by kernel_rfl) (fun _ _ _ h => h) (Or.inl ⟨by kernel_rfl, ?_⟩) ?_
    rotate_left
    · (intro W2; go_simp; try with_reducible rfl)
    dsimp [Act.put]
    simp only [List.setIfInBounds_toArray, List.set_cons_zero, List.set_cons_succ]
    refine wpAny_head 7 3 (fun i => decide (i < 4)) (fun y => (Value.pointer (some { block := q, off := 0 })) :: (Value.agg #[Value.int IntKind.i64 mo, Value.int IntKind.i64 la, Value.int IntKind.u8 ne]) :: undef :: (Value.pointer (some { block := g, off := 0 })) :: (Value.int IntKind.i64 0) :: (Value.int IntKind.i64 ↑L.length) :: (Value.bool false) :: (Value.tuple #[Value.int IntKind.i64 c, Value.bool false]) :: (Value.pointer (some { block := q, off := 0 })) :: (Value.pointer (some { block := q, off := 0 })) :: (Value.pointer (some { block := q, off := 2 })) :: (Value.map (some mb)) :: (Value.agg #[Value.int IntKind.i64 mo, Value.int IntKind.i64 la, Value.int IntKind.u8 ne]) :: (Value.tuple #[Value.int IntKind.i64 c, Value.bool false]) :: (Value.int IntKind.i64 c) :: (Value.bool false) :: (Value.bool false) :: (Value.bool true) :: (Value.pointer (some { block := q, off := 0 })) :: (Value.pointer (some { block := q, off := 0 })) :: (Value.pointer (some { block := q, off := 0 })) :: SV :: (Value.int IntKind.i64 ↑L.length) :: (Value.pointer (some { block := q, off := 0 })) :: (Value.pointer (some { block := q, off := 0 })) :: (Value.pointer (some { block := q, off := 2 })) :: (Value.map (some mb)) :: (Value.agg #[Value.int IntKind.i64 mo, Value.int IntKind.i64 la, Value.int IntKind.u8 ne]) :: (Value.int IntKind.i64 ↑L.length) :: (Value.pointer (some { block := q, off := 0 })) :: (Value.pointer (some { block := q, off := 0 })) :: (Value.pointer (some { block := q, off := 0 })) :: (Value.pointer (some { block := q, off := 0 })) :: y 4 :: y 5 :: y 6 :: undef :: undef :: undef :: undef :: undef :: undef :: undef :: undef :: undef :: undef :: undef :: undef :: undef :: []) (fun _ w' => Below w1.heap.size w1 w') (phiP5 w1.heap.size SV mo la ne) (fun _ => undef)
      (by kernel_rfl) (by kernel_rfl) (by kernel_rfl) (by kernel_rfl) ?_ (by kernel_rfl) (by kernel_rfl) (by kernel_rfl) (by kernel_rfl) (by kernel_rfl) (fun i hi => decide_eq_false (by have : 11 ≤ i := hi; omega)) ?_ (by decide) (Below.drew (Below.refl _ _)) [4, 5, 6] (by kernel_rfl) ?_ ?_
    · intro j v u1 u2 h hb
      match j, h with
      | 6, h =>
        obtain ⟨b, e, hb6, hn⟩ := h
        exact ⟨b, e, hb6.keep hb hb6.lt, hn⟩
      | 4, h => exact h
      | 5, h => exact h
      | 0, _ => trivial
      | 1, _ => trivial
      | 2, _ => trivial
      | 3, _ => trivial
      | n + 7, _ => trivial
    · intro i hi v u
      have hi4 : i < 4 := by simpa using hi
      match i, hi4 with
      | 0, _ => trivial
      | 1, _ => trivial
      | 2, _ => trivial
      | 3, _ => trivial
    · refine allCons ?_ (allCons ?_ (allCons ?_ allNil))
      all_goals intro y w10 K3 hS hd hK3
      · have cc := (hS.cell (p := ⟨q, 0, none⟩) hql).trans a0
        refine wpOp_step rfl (fun K2 hK2 => ?_)
        go_simp
        exact hK2 _ _ (hK3 _ _ hS rfl (Below.refl _ _))
      · have e0 := (hS.cell (p := ⟨g, 0, none⟩) hgl).trans d0
        have e1 := (hS.cell (p := ⟨g, 1, none⟩) hgl).trans d1
        have e2 := (hS.cell (p := ⟨g, 2, none⟩) hgl).trans d2
        refine wpOp_step rfl (fun K2 hK2 => ?_)
        go_simp
        exact hK2 _ _ (hK3 _ _ hS rfl (Below.refl _ _))
      · have e5 : y 5 = _ := hd 5 rfl
        obtain ⟨y, rfl⟩ := upd_at (y := y) (i := 5) e5
        dsimp [upd]
        refine wpOp_step rfl (fun K2 hK2 => ?_)
        go_simp
        exact hK2 _ _ (hK3 _ _ (hS.alloc hS.size _) ⟨_, rfl, Blk.new _ _ _, hS.size⟩ (below_box _ _ _))
    · intro y w10 f hS hd
      have e4 : y 4 = _ := hd 4 (by decide)
      obtain ⟨b6, e6, hb6, hn6⟩ := hd 6 (by decide)
      clear hd
      refine wpAny_one (i := 7) (by kernel_rfl) ?_
      obtain ⟨i0, hi, hz0, hz1, hz2⟩ := info_parts info_st
      have hsv10 : w10.ownsRow 0 47 3 SV L.length (L.flatMap St.cs) := own_move hsv1 fun b hb => by
        obtain ⟨cur, hc⟩ := own_blk hsv1 hb
        exact hS.block b hc.lt
      refine wpOp_append_at rfl rfl _ _ 112 rfl 47 i0 (.agg #[.int .i64 0, .int .i64 0, .int .u8 0]) 3 24 Try.underlying112 hi hz0 hz1 hz2 rfl (by decide) SV L.length _ e4 hsv10 ⟨b6, 0, none⟩ 1 1 [.int .i64 mo, .int .i64 la, .int .u8 ne] e6 rfl hb6.news (by simp [Value.oneCell']) (by unfold maxLen; omega) (by omega) ?_
      intro v2 w2 hown2 hgr2 hloc2
      obtain ⟨A2, k2, rfl⟩ := own_shape hown2
      have hq10 := hq1.keep hS hql
      have hbv10 : w10.ownsRow 0 43 1 BV B.length vs := own_move hbv1 fun b hb => by
        obtain ⟨cur, hc⟩ := own_blk hbv1 hb
        exact hS.block b hc.lt
      have hmap10 := map_move hmap (hS.block mb hmap.lt)
      have hq2 : Blk w2 q 238 #[SV, BV, .map (some mb)] := (hgr2.block q hq10.lt (own_ne3 hsv10 hq10 (by decide)).symm).trans hq10
      have hbv2 : w2.ownsRow 0 43 1 BV B.length vs := own_move hbv10 fun b hb => by
        obtain ⟨cur, hc⟩ := own_blk hbv10 hb
        exact hgr2.block b hc.lt (own_ne3 hsv10 hc (by decide)).symm
      have hmap2 := map_move hmap10 (hgr2.block mb hmap10.lt (fun e => by
        obtain ⟨cur, hc⟩ := own_blk hsv10 e.symm
        exact map_blk hmap10 hc rfl))
      have hf2 : ∀ b, b < V.heap.size → b ≠ mb → SV.ownBlock ≠ some b → w2.heap[b]? = V.heap[b]? := fun b hb hbm hsb => by
        have s1 := hgr.size
        have s2 := hS.size
        exact ((hgr2.block b (by show b < _; have : V.drew.drew.heap.size = V.heap.size := rfl; omega) (Ne.symm hsb)).trans (hS.block b (by have : V.drew.drew.heap.size = V.heap.size := rfl; omega))).trans (hgr.block b hb (fun e => hbm (by injection e)))
      have hs2 : V.heap.size ≤ w2.heap.size := by
        have s1 := hgr.size
        have s2 := hS.size
        have s3 := hgr2.size
        have : V.drew.drew.heap.size = V.heap.size := rfl
        omega
      have hu2 : w2.os = V.os ∧ w2.tape = V.tape ∧ w2.output = V.output := ⟨(hgr2.os.trans hS.os).trans hgr.os, (hgr2.tape.trans hS.tape).trans hgr.tape, (hgr2.output.trans hS.output).trans hgr.output⟩
      have hl2 : (Value.slice A2 (L.length + 1) k2).ownBlock = SV.ownBlock ∨ ∃ b, (Value.slice A2 (L.length + 1) k2).ownBlock = some b ∧ V.heap.size ≤ b := by
        rcases hloc2 with h | h
        · exact .inl h
        · refine .inr ⟨_, h, ?_⟩
          have s1 := hgr.size
          have s2 := hS.size
          have : V.drew.drew.heap.size = V.heap.size := rfl
          omega
      have HA := Lib.hid (And.intro hown2 (And.intro hmap2 (And.intro hf2 (And.intro hs2 (And.intro hu2 (And.intro hl2 hG))))))
      clear hown2 hgr2 hloc2 hsv10 hq10 hbv10 hmap10 hmap2 hf2 hs2 hu2 hl2 hG hS hb6 hn6 hsv1 hbv1 hq1 hg1 a0 d0 d1 d2 hql hgl hmap hgr e4 e6
      have c0 := hq2.cell 0
      have f0 := hq2.free 0
      simp only [List.getElem?_toArray, List.getElem?_cons_zero] at c0
      dsimp [Act.put]
      simp only [List.setIfInBounds_toArray, List.set_cons_zero, List.set_cons_succ]
      refine wpAny_one (i := 8) (by kernel_rfl) ?_
      refine wpOp_step rfl (fun K2 hK2 => ?_)
      go_simp
      refine hK2 _ _ ?_
      clear hK2 K2
      refine wpAny_one (i := 9) (by kernel_rfl) ?_
      refine wpOp_step rfl (fun K2 hK2 => ?_)
      go_simp
      refine hK2 _ _ ?_
      clear hK2 K2
      refine wpAny_one (i := 10) (by kernel_rfl) ?_
      refine wpOp_step rfl (fun K2 hK2 => ?_)
      go_simp
      refine hK2 _ _ ?_
      clear hK2 K2
      refine wpAny_done (by kernel_rfl) ?_ _
      have hq3 : Blk (w2.setCell ⟨q, 0, none⟩ (.slice A2 (L.length + 1) k2)) q 238 #[(.slice A2 (L.length + 1) k2), BV, .map (some mb)] := hq2.set 0 (.slice A2 (L.length + 1) k2)
      have hbv3 : (w2.setCell ⟨q, 0, none⟩ (.slice A2 (L.length + 1) k2)).ownsRow 0 43 1 BV B.length vs := own_set hbv2 hq2 (by decide) (.slice A2 (L.length + 1) k2)
      have hown3 : (w2.setCell ⟨q, 0, none⟩ (.slice A2 (L.length + 1) k2)).ownsRow 0 47 3 (.slice A2 (L.length + 1) k2) (L.length + 1) (L.flatMap St.cs ++ [.int .i64 mo, .int .i64 la, .int .u8 ne]) := own_set HA.out.1 hq2 (by decide) (.slice A2 (L.length + 1) k2)
      have hmap3 := map_move (w' := w2.setCell ⟨q, 0, none⟩ (.slice A2 (L.length + 1) k2)) HA.out.2.1 (Below.heap_setCell w2 ⟨q, 0, none⟩ (.slice A2 (L.length + 1) k2) mb (fun e => map_blk HA.out.2.1 hq2 e.symm))
      have hf3 : ∀ b, b < V.heap.size → b ≠ mb → b ≠ q → SV.ownBlock ≠ some b → (w2.setCell ⟨q, 0, none⟩ (.slice A2 (L.length + 1) k2)).heap[b]? = V.heap[b]? := fun b hb hbm hbq hsb => (Below.heap_setCell w2 ⟨q, 0, none⟩ (.slice A2 (L.length + 1) k2) b hbq).trans (HA.out.2.2.1 b hb hbm hsb)
      have hs3 : V.heap.size ≤ (w2.setCell ⟨q, 0, none⟩ (.slice A2 (L.length + 1) k2)).heap.size := by simpa using HA.out.2.2.2.1
      have hu3 : (w2.setCell ⟨q, 0, none⟩ (.slice A2 (L.length + 1) k2)).os = V.os ∧ (w2.setCell ⟨q, 0, none⟩ (.slice A2 (L.length + 1) k2)).tape = V.tape ∧ (w2.setCell ⟨q, 0, none⟩ (.slice A2 (L.length + 1) k2)).output = V.output := HA.out.2.2.2.2.1
      have HL := Lib.hid HA.out.2.2.2.2.2
      clear HA hq2 hbv2 c0 f0
      go_upto_region 6 with fail
      generalize w2.setCell ⟨q, 0, none⟩ (.slice A2 (L.length + 1) k2) = w3 at *
      have c1 := hq3.cell 1
      simp only [List.getElem?_toArray, List.getElem?_cons_zero, List.getElem?_cons_succ] at c1
      obtain ⟨i1, hj, hy0, hy1, hy2⟩ := info_parts info_ints
      have HQ3 := Lib.hid hq3
      have HB3 := Lib.hid hbv3
      have HF3 := Lib.hid (And.intro hown3 (And.intro hmap3 (And.intro hf3 (And.intro hs3 hu3))))
      have hBl := G1.out.len
      clear hq3 hbv3 hown3 hmap3 hf3 hs3 hu3
      have hq3l := HQ3.out.lt
      go_wp2_with (at_builtin; refine wpList_append_own_at _ rfl _ _ 72 rfl 0 43 i1 (.slice none 0 0) 1 24 Try.underlying72 hj hy0 hy1 hy2 rfl (by decide) BV B.length vs rfl (HB3.out.alloc _) ⟨w3.heap.size, 0, none⟩ 1 1 [.slice none 0 0] rfl rfl (cell_one_new _ _ _) (by simp [Value.oneCell']) (by unfold maxLen; omega) (by omega) (by omega) ?_)
      intro v4 w4 hown4 hgr4 hnil4 hloc4
      obtain ⟨A4, k4, rfl⟩ := own_shape hown4
      have hgr5 : w3.grownBy w4 BV.ownBlock := (World.grownBy_alloc _ _ _).trans hgr4
      have hq4 : Blk w4 q 238 #[.slice A2 (L.length + 1) k2, BV, .map (some mb)] := (hgr5.block q hq3l (own_ne3 HB3.out HQ3.out (by decide)).symm).trans HQ3.out
      have hl4 : (Value.slice A4 (L.length + 1) k4).ownBlock = BV.ownBlock ∨ ∃ b, (Value.slice A4 (L.length + 1) k4).ownBlock = some b ∧ V.heap.size ≤ b := by
        rcases hloc4 with h | h
        · exact .inl h
        · exact .inr ⟨_, h, by have := HF3.out.2.2.2.1; simp; omega⟩
      have HN := Lib.hid (And.intro hown4 (And.intro hgr5 (And.intro hq4 hl4)))
      have c1' := hq4.cell 1
      have f1 := hq4.free 1
      simp only [List.getElem?_toArray, List.getElem?_cons_zero, List.getElem?_cons_succ] at c1'
      clear hown4 hgr4 hnil4 hloc4 hgr5 hq4 hl4
      go_wp2_with fail
      go_ret
      have hE := place_end (fun b hb => by have := hK b hb; omega) HL.out.2 HS.out HM.out HF3.out.1 HF3.out.2.1 HF3.out.2.2.1 HF3.out.2.2.2.1 HF3.out.2.2.2.2 HL.out.1 HB3.out HN.out.1 HN.out.2.1 HN.out.2.2.1 HN.out.2.2.2
      obtain ⟨k1, k2, k3, k4, k5⟩ := K1.out
      obtain ⟨e1, e2, e3, e4, e5⟩ := hE.2
      refine ⟨by rw [idx_new HM.out]; rfl, hE.1, e1.trans k1, e2.trans k2, e3.trans k3, Nat.le_trans k4 e4, fun b hb => (e5 b hb).trans (k5 b hb)⟩
end Go.Proofs.Ytpkdlljefkbmpaa

/-! A region that draws its order: operations that make or write, in whatever order, each of which says what it keeps; what comes behind all of them. -/
namespace Go.Proofs.Ytpkdlljefkbmpaa
open Go.RowKit

theorem wp_region_mid {P : Program} {id : Nat} {ops : Array Oper} {Q : Exit → Act → World → Prop} {d : List Deferred} {w0 : World} (N k : Nat) (hm : P.follows .mixedOrders = true)
    (slots : (Nat → Value) → List Value) (S : (Nat → Bool) → (Nat → Value) → World → Prop) (φ : Nat → Value → World → Prop) (y0 : Nat → Value)
    (hsz : ops.size = N + (k + 1))
    (hac : (List.range ops.size).all (fun i => (depsOf ops i).all (· < i)) = true)
    (hcov : (List.range N).all (fun i => (List.range (N + 1)).any fun k => decide (i < k) && (depsOf ops k).contains i) = true)
    (hlast : (List.range k).all (fun j => (depsOf ops (N + 1 + j)).contains N) = true)
    (hS : S (fun _ => false) y0 w0.drew)
    (rs : List Nat) (hrs : List.range N = rs)
    (hop : ∀ i ∈ rs, ∀ (b : Nat → Bool) (y : Nat → Value) (w : World) (K : Act → World → Prop), b i = false → S b y w → (∀ j, (depsOf ops i).contains j = true → φ j (y j) w) →
      (∀ v w', S (fun j => if j = i then true else b j) (upd y i v) w' → φ i v w' → (∀ j, j < N → φ j (y j) w → φ j (y j) w') → K ⟨(slots (upd y i v)).toArray, d⟩ w') → wpOp P ops Q i K ⟨(slots y).toArray, d⟩ w)
    (hend : ∀ (b : Nat → Bool) (y : Nat → Value) (w : World) (f : Nat), (∀ i, i < N → b i = true) → S b y w → (∀ i, i < N → φ i (y i) w) → wpAny P .any ops Q (f + (k + 1)) (frontL (N + (k + 1)) N) ⟨(slots y).toArray, d⟩ w) :
    (Code.region id ops true).wp P Q ⟨(slots y0).toArray, d⟩ w0 := by
  have hlt : ∀ i, i < ops.size → ∀ j, (depsOf ops i).contains j = true → j < i := by
    intro i hi j hj
    have h1 := List.all_eq_true.1 hac i (List.mem_range.2 hi)
    simpa using List.all_eq_true.1 h1 j (by simpa using hj)
  have hacE : ∀ (i : Nat) (o : Oper), ops[i]? = some o → ∀ e ∈ o.after, Region.binds .any e = true → e.on < i := by
    intro i o ho e he hb
    exact hlt i (Array.getElem?_eq_some_iff.1 ho).1 _ (mem_deps ho he hb)
  refine wp_region_any hm ?_
  have main : ∀ (fuel : Nat) (listed : Array Bool) (a : Act) (w : World), listed.size = ops.size → (∀ i, N ≤ i → listed.getD i false = false) → ClosedB ops (fun j => listed.getD j false) →
      (∃ y, a = ⟨(slots y).toArray, d⟩ ∧ S (fun j => listed.getD j false) y w ∧ ∀ i, i < N → listed.getD i false = true → φ i (y i) w) → listed.toList.count false ≤ fuel → wpAny P .any ops Q fuel listed a w := by
    intro fuel
    induction fuel with
    | zero =>
      intro listed a w hs hN hcl _ hcnt
      exfalso
      have h0 := hN N (Nat.le_refl _)
      have hNlt : N < listed.size := by omega
      have hpos : 0 < listed.toList.count false := by
        rw [List.count_pos_iff]
        have : listed.toList[N]'(by simpa using hNlt) = false := by simpa [hNlt] using h0
        rw [← this]; exact List.getElem_mem _
      omega
    | succ fuel ih =>
      intro listed a w hs hN hcl hy hcnt
      by_cases hall : ∀ i, i < N → listed.getD i false = true
      · obtain ⟨y, rfl, hSw, hφ⟩ := hy
        have hl := frontL_eq hs hall hN
        have hc2 := frontL_count (n := N + (k + 1)) (N := N) (by omega)
        rw [hsz] at hl
        rw [hl, hc2] at hcnt
        rw [hl]
        have hf : fuel + 1 = (fuel - k) + (k + 1) := by omega
        rw [hf]
        exact hend _ y w _ hall hSw (fun i hi => hφ i hi (hall i hi))
      · refine ⟨fun hr => absurd (fun i hi => ready_nil hacE hs hr i (by omega)) hall, fun i hi => ?_⟩
        obtain ⟨h0, o, ho, hd⟩ := mem_ready.1 hi
        have hisz : i < ops.size := (Array.getElem?_eq_some_iff.1 ho).1
        have hbi : listed.getD i false = false := by simpa [show i < listed.size by omega] using h0
        have hd' : ∀ o', ops[i]? = some o' → ∀ e ∈ o'.after, Region.binds .any e = true → listed.getD e.on false = true := fun o' ho' e he hb => by rw [ho] at ho'; cases ho'; exact hd e he hb
        have hiN : i < N := by
          rcases Nat.lt_or_ge i N with g | g
          · exact g
          · exfalso
            by_cases hie : i = N
            · subst hie
              exact hall (covered (by omega) hcov hcl (fun j hj => of_deps (b := fun j => listed.getD j false) hisz hd' hj))
            · have hc := List.all_eq_true.1 hlast (i - (N + 1)) (List.mem_range.2 (by omega))
              rw [show N + 1 + (i - (N + 1)) = i by omega] at hc
              have := of_deps (b := fun j => listed.getD j false) hisz hd' hc
              have h2 := hN N (Nat.le_refl _)
              rw [h2] at this; cases this
        obtain ⟨y, rfl, hSw, hφ⟩ := hy
        have hcs := count_set_lt (listed := listed) (i := i) (by omega) h0
        have e : ∀ j, (listed.setIfInBounds i true).getD j false = if j = i then true else listed.getD j false := by
          intro j
          by_cases hj : j = i
          · subst hj; simp [show j < listed.size by omega]
          · rw [getD_set_ne false (Ne.symm hj), if_neg hj]
        have hcl' : ClosedB ops (fun j => (listed.setIfInBounds i true).getD j false) := by
          intro q hq hbq j hj
          simp only [e] at hbq ⊢
          by_cases hji : j = i
          · simp [hji]
          · rw [if_neg hji]
            by_cases hqi : q = i
            · subst hqi; exact of_deps (b := fun j => listed.getD j false) hisz hd' hj
            · rw [if_neg hqi] at hbq; exact hcl q hq hbq j hj
        refine hop i (by rw [← hrs]; exact List.mem_range.2 hiN) (fun j => listed.getD j false) y w _ hbi hSw (fun j hj => hφ j (by have := hlt i hisz j hj; omega) (of_deps (b := fun j => listed.getD j false) hisz hd' hj)) (fun v w' hS' hv hb' => ?_)
        refine ih _ _ _ (by simpa using hs) (fun j hj => by rw [e, if_neg (by omega)]; exact hN j hj) hcl' ⟨upd y i v, rfl, by have e2 : (fun j => (listed.setIfInBounds i true).getD j false) = fun j => if j = i then true else listed.getD j false := funext e; rw [e2]; exact hS', fun j hjN hj => ?_⟩ (by omega)
        by_cases hji : j = i
        · subst hji
          have : upd y j v j = v := by simp [upd]
          rw [this]; exact hv
        · have : upd y i v j = y j := by simp [upd, hji]
          rw [this]
          rw [e, if_neg hji] at hj
          exact hb' j hjN (hφ j hjN hj)
  have hg0 : ∀ i, (Array.replicate ops.size false).getD i false = false := by
    intro i
    by_cases h : i < ops.size <;> simp [h]
  exact main _ _ _ _ (by simp) (fun i _ => hg0 i) (fun i _ hb => by simp only [hg0] at hb; cases hb) ⟨y0, rfl, by have e2 : (fun j => (Array.replicate ops.size false).getD j false) = fun _ => false := funext hg0; rw [e2]; exact hS, fun i _ hb => by rw [hg0] at hb; cases hb⟩ (by simp)
end Go.Proofs.Ytpkdlljefkbmpaa

/-! Package automaton, purely: the states that are found, and from where rules lead to each. -/
namespace Go.Proofs.Ytpkdlljefkbmpaa
open Go.RowKit Go.Maps

/-- A state of a table with m modes. -/
def St.ok (s : St) (m : Int) : Prop := (0 ≤ s.mode ∧ s.mode < m) ∧ (0 ≤ s.last ∧ s.last ≤ 5) ∧ (0 ≤ s.need ∧ s.need < 64)
theorem St.ok.fit {s : St} {m : Int} (h : s.ok m) (hm : m ≤ 8) : s.fits := by
  obtain ⟨h1, h2, h3⟩ := h
  exact ⟨by omega, by omega, by omega⟩
theorem start_ok {m : Int} (h : 1 ≤ m) : St.start.ok m := ⟨⟨by decide, by show (0 : Int) < m; omega⟩, by decide, by decide⟩
theorem cls_bd (b : Int) : 0 ≤ clsI b ∧ clsI b ≤ 5 := by
  unfold clsI
  split
  · omega
  · split
    · omega
    · split
      · omega
      · split <;> omega
theorem and_bd (a b : Int) (h1 : 0 ≤ a) (h2 : a < 64) (h3 : 0 ≤ b) (h4 : b < 64) : 0 ≤ bits .and .u8 a b ∧ bits .and .u8 a b < 64 := by
  have h := allB2_out (n := 64) (m := 64) (p := fun a b => decide (0 ≤ bits .and .u8 (a : Int) (b : Int)) && decide (bits .and .u8 (a : Int) (b : Int) < 64)) (by decide +kernel) a.toNat b.toNat (by omega) (by omega)
  rw [show ((a.toNat : Nat) : Int) = a from by omega, show ((b.toNat : Nat) : Int) = b from by omega, Bool.and_eq_true] at h
  exact ⟨of_decide_eq_true h.1, of_decide_eq_true h.2⟩
theorem stepS_some {rs : List Rule} {s : St} {k : Int} (h : (stepS rs s k).2 = true) : ∃ x ∈ rs, stepR x s = some (stepS rs s k).1 := by
  unfold stepS at h ⊢
  split at h
  · cases h
  · rename_i hk
    rw [if_neg hk]
    cases hx : rs[k.toNat]? with
    | none => rw [hx] at h; cases h
    | some x =>
      rw [hx] at h
      dsimp only at h ⊢
      cases hr : stepR x s with
      | none => rw [hr] at h; cases h
      | some t => exact ⟨x, List.mem_of_getElem? hx, hr⟩
theorem step_ok {m a : Int} {rs : List Rule} (hG : GoodL m a rs) (hf : ∀ x ∈ rs, x.fits) {s : St} (hs : s.ok m) {k : Int} (h : (stepS rs s k).2 = true) : (stepS rs s k).1.ok m := by
  obtain ⟨x, hx, hr⟩ := stepS_some h
  have h1 := hG.2.2 x hx
  obtain ⟨f1, f2, f3, f4, f5, f6, f7⟩ := hf x hx
  unfold soundB maskB modeB at h1
  simp only [Bool.and_eq_true, decide_eq_true_eq] at h1
  obtain ⟨⟨⟨⟨_, s5⟩, s6⟩, s7⟩, s8⟩ := h1
  unfold stepR at hr
  split at hr
  · cases hr
  · injection hr with hr
    rw [← hr]
    unfold afterS
    split
    · have := and_bd s.need x.r hs.2.2.1 hs.2.2.2 f5.1 (by omega)
      exact ⟨s8, hs.2.1, this⟩
    · exact ⟨s8, cls_bd _, f5.1, by show x.r < 64; omega⟩
theorem nodup_le : ∀ (n : Nat) (l : List Nat), l.Nodup → (∀ x ∈ l, x < n) → l.length ≤ n := by
  intro n
  induction n with
  | zero =>
    intro l _ h
    cases l with
    | nil => simp
    | cons a l => have := h a (by simp); omega
  | succ n ih =>
    intro l hd h
    have h1 := ih (l.erase n) (hd.erase n) fun x hx => by
      have h2 := h x (List.mem_of_mem_erase hx)
      have h3 : x ≠ n := fun e => by rw [e] at hx; exact (hd.not_mem_erase) hx
      omega
    rw [List.length_erase] at h1
    split at h1 <;> omega
def St.code (s : St) : Nat := (s.mode.toNat * 6 + s.last.toNat) * 64 + s.need.toNat
theorem code_inj {s t : St} {m : Int} (hs : s.ok m) (ht : t.ok m) (h : s.code = t.code) : s = t := by
  obtain ⟨h1, h2, h3⟩ := hs
  obtain ⟨g1, g2, g3⟩ := ht
  obtain ⟨a, b, c⟩ := s
  obtain ⟨a', b', c'⟩ := t
  unfold St.code at h
  simp only at h h1 h2 h3 g1 g2 g3
  have e1 : c = c' := by omega
  have e2 : b = b' := by omega
  have e3 : a = a' := by omega
  rw [e1, e2, e3]
theorem states_le {m : Int} {L : List St} (hm : 0 ≤ m) (hd : L.Nodup) (h : ∀ s ∈ L, s.ok m) : L.length ≤ m.toNat * 384 := by
  have hn : (L.map St.code).Nodup := by
    unfold List.Nodup
    rw [List.pairwise_map]
    refine List.Pairwise.imp_of_mem ?_ hd
    intro s t hs ht hne e
    exact hne (code_inj (h s hs) (h t ht) e)
  have := nodup_le (m.toNat * 384) (L.map St.code) hn fun x hx => by
    rw [List.mem_map] at hx
    obtain ⟨s, hs, rfl⟩ := hx
    obtain ⟨h1, h2, h3⟩ := h s hs
    unfold St.code
    omega
  simpa using this
abbrev Gr := List St × List (List Nat)
def addB (B : List (List Nat)) (k i : Nat) : List (List Nat) := B.set k ((B.getD k []) ++ [i])
/-- A rule is tried in the state s, which has the place i. -/
def edgeG (rs : List Rule) (i : Nat) (s : St) (r : Nat) (G : Gr) : Gr :=
  if (stepS rs s r).2 = true ∧ (stepS rs s r).1 ≠ s then (insS G.1 (stepS rs s r).1, addB (insB G.1 G.2 (stepS rs s r).1) (G.1.idxOf (stepS rs s r).1) i) else G
def rowG (rs : List Rule) (i : Nat) (s : St) : Nat → Gr → Gr
  | 0, G => G
  | n + 1, G => edgeG rs i s n (rowG rs i s n G)
def expG (rs : List Rule) : Nat → Nat → Gr → Gr
  | 0, _, G => G
  | f + 1, i, G => match G.1[i]? with
    | some s => expG rs f (i + 1) (rowG rs i s rs.length G)
    | none => G
def startG : Gr := ([St.start], [[]])
def theG (rs : List Rule) : Gr := expG rs 4000 0 startG
def OkG (m : Int) (G : Gr) : Prop := (∀ s ∈ G.1, s.ok m) ∧ G.1.Nodup ∧ G.2.length = G.1.length
theorem mem_insS {L : List St} {s t : St} : t ∈ insS L s ↔ t ∈ L ∨ t = s := by
  unfold insS
  split
  · rename_i h
    constructor
    · exact .inl
    · rintro (h1 | rfl)
      · exact h1
      · exact h
  · simp
theorem nodup_insS {L : List St} {s : St} (h : L.Nodup) : (insS L s).Nodup := by
  unfold insS
  split
  · exact h
  · rename_i hn
    rw [List.nodup_append]
    exact ⟨h, by simp, fun a ha b hb e => by simp at hb; subst hb; subst e; exact hn ha⟩
theorem len_insB {L : List St} {B : List (List Nat)} {s : St} (h : B.length = L.length) : (insB L B s).length = (insS L s).length := by
  unfold insB insS
  split
  · exact h
  · simp [h]
theorem edge_ok {m a : Int} {rs : List Rule} (hG : GoodL m a rs) (hf : ∀ x ∈ rs, x.fits) {i r : Nat} {s : St} {G : Gr} (hs : s.ok m) (h : OkG m G) : OkG m (edgeG rs i s r G) := by
  unfold edgeG
  split
  · rename_i hc
    obtain ⟨h1, h2, h3⟩ := h
    refine ⟨fun t ht => ?_, nodup_insS h2, ?_⟩
    · rcases mem_insS.1 ht with g | rfl
      · exact h1 t g
      · exact step_ok hG hf hs hc.1
    · unfold addB
      rw [List.length_set]
      exact len_insB h3
  · exact h
theorem row_ok {m a : Int} {rs : List Rule} (hG : GoodL m a rs) (hf : ∀ x ∈ rs, x.fits) {i : Nat} {s : St} {G : Gr} (hs : s.ok m) (h : OkG m G) : ∀ n, OkG m (rowG rs i s n G) := by
  intro n
  induction n with
  | zero => exact h
  | succ n ih => exact edge_ok hG hf hs ih
theorem startG_ok {m : Int} (h : 1 ≤ m) : OkG m startG := ⟨fun s hs => by simp [startG] at hs; subst hs; exact start_ok h, by simp [startG], rfl⟩
theorem OkG.le {m : Int} {G : Gr} (h : OkG m G) (hm : 0 ≤ m ∧ m ≤ 8) : G.1.length ≤ 3072 := by
  have := states_le hm.1 h.2.1 h.1
  omega
end Go.Proofs.Ytpkdlljefkbmpaa

/-! A description of a table stays what it is. -/
namespace Go.Proofs.Ytpkdlljefkbmpaa
open Go.RowKit

theorem RawMs.up {w w' : World} {A : Option Addr} {n : Nat} (h : RawMs w w.heap.size A n) (hb : Below w.heap.size w w') : RawMs w' w'.heap.size A n := fun h0 => by
  obtain ⟨b, o, e, hB, hc⟩ := h h0
  refine ⟨b, o, e, by have := hb.size; omega, fun j hj => ?_⟩
  obtain ⟨PA, np, kp, CA, nc, kc, ps, cs, l, r, u0, u1, d0, d1, d2, d3, d4, d5, hp, hcn, hP, hC, rest⟩ := hc j hj
  have key : ∀ i, w'.cell? ⟨b, i, none⟩ = w.cell? ⟨b, i, none⟩ := fun i => hb.cell (p := ⟨b, i, none⟩) hB
  exact ⟨PA, np, kp, CA, nc, kc, ps, cs, l, r, u0, u1, (key _).trans d0, (key _).trans d1, (key _).trans d2, (key _).trans d3, (key _).trans d4, (key _).trans d5, hp, hcn, hP.up hb, hC.up hb, rest⟩
theorem Rules.fit {w : World} {B : Nat} {A : Option Addr} {rs : List Rule} (h : Rules w B A rs) : ∀ x ∈ rs, x.fits := by
  intro x hx
  obtain ⟨j, hj, rfl⟩ := List.getElem_of_mem hx
  obtain ⟨b, o, _, _, hc⟩ := h (by omega)
  obtain ⟨_, _, _, _, _, _, _, _, _, hf⟩ := hc j hj
  exact hf
end Go.Proofs.Ytpkdlljefkbmpaa

/-! Package automaton: a graph in memory gets one more edge. -/
namespace Go.Proofs.Ytpkdlljefkbmpaa
open Go.RowKit Go.Maps

/-- What explore hands back. -/
def GrEnd (rs : List Rule) (w : World) (e : Ending) (w' : World) : Prop :=
  ∃ SV BV mb vs D q, e = .returned (.agg #[SV, BV, .map (some mb)]) ∧ GB (fun b => b < w.heap.size) w' q mb (theG rs).1 (theG rs).2 SV BV vs D ∧ Below w.heap.size w w'
theorem Blk.any {w : World} {g : Nat} {t : TypeId} {row : Array Value} (h : Blk w g t row) (o : Obj) : Blk (w.alloc o) g t row := by
  unfold Blk
  rw [(below_any w o).block g h.lt]
  exact h
  where below_any (w : World) (o : Obj) : Below w.heap.size w (w.alloc o) := (Below.refl _ _).alloc (Nat.le_refl _) _
theorem explore_pre (w : World) (m a : Int) (A : Option Addr) (n k : Nat) :
    Blk ((((w.alloc (.cells #[.int .i64 m, .int .u8 a, .slice A n k] 30)).alloc (.cells #[.slice none 0 0, .slice none 0 0, .map none] 238)).alloc (.map #[] 0)).alloc (.cells #[.slice none 0 0, .slice none 0 0, .map (some (w.heap.size + 1 + 1))] 238)) w.heap.size 30 #[.int .i64 m, .int .u8 a, .slice A n k] ∧ Blk ((((w.alloc (.cells #[.int .i64 m, .int .u8 a, .slice A n k] 30)).alloc (.cells #[.slice none 0 0, .slice none 0 0, .map none] 238)).alloc (.map #[] 0)).alloc (.cells #[.slice none 0 0, .slice none 0 0, .map (some (w.heap.size + 1 + 1))] 238)) (w.heap.size + 1) 238 #[.slice none 0 0, .slice none 0 0, .map none] ∧
    GB (fun b => b < w.heap.size + 2) ((((w.alloc (.cells #[.int .i64 m, .int .u8 a, .slice A n k] 30)).alloc (.cells #[.slice none 0 0, .slice none 0 0, .map none] 238)).alloc (.map #[] 0)).alloc (.cells #[.slice none 0 0, .slice none 0 0, .map (some (w.heap.size + 1 + 1))] 238)) (w.heap.size + 1 + 1 + 1) (w.heap.size + 1 + 1) [] [] (.slice none 0 0) (.slice none 0 0) [] (.map []) ∧ Below w.heap.size w ((((w.alloc (.cells #[.int .i64 m, .int .u8 a, .slice A n k] 30)).alloc (.cells #[.slice none 0 0, .slice none 0 0, .map none] 238)).alloc (.map #[] 0)).alloc (.cells #[.slice none 0 0, .slice none 0 0, .map (some (w.heap.size + 1 + 1))] 238)) ∧ ((((w.alloc (.cells #[.int .i64 m, .int .u8 a, .slice A n k] 30)).alloc (.cells #[.slice none 0 0, .slice none 0 0, .map none] 238)).alloc (.map #[] 0)).alloc (.cells #[.slice none 0 0, .slice none 0 0, .map (some (w.heap.size + 1 + 1))] 238)).heap.size = w.heap.size + 4 := by
  have n0 := Blk.new w #[.int .i64 m, .int .u8 a, .slice A n k] 30
  have b0 := below_box w #[.int .i64 m, .int .u8 a, .slice A n k] 30
  have s0 : (w.alloc (.cells #[.int .i64 m, .int .u8 a, .slice A n k] 30)).heap.size = w.heap.size + 1 := by simp
  generalize w.alloc (.cells #[.int .i64 m, .int .u8 a, .slice A n k] 30) = w1 at *
  have n1 := Blk.new w1 #[.slice none 0 0, .slice none 0 0, .map none] 238
  have s1 : (w1.alloc (.cells #[.slice none 0 0, .slice none 0 0, .map none] 238)).heap.size = w1.heap.size + 1 := by simp
  have b1 := b0.alloc (by omega) (.cells #[.slice none 0 0, .slice none 0 0, .map none] 238)
  have n0' : Blk (w1.alloc (.cells #[.slice none 0 0, .slice none 0 0, .map none] 238)) w.heap.size 30 #[.int .i64 m, .int .u8 a, .slice A n k] := n0.any _
  generalize w1.alloc (.cells #[.slice none 0 0, .slice none 0 0, .map none] 238) = w2 at *
  have m2 := World.ownsMap_made (H := Unit) w2 Try.prog 47 (plainElem Try.prog 3)
  have s2 : (w2.alloc (.map #[] 0)).heap.size = w2.heap.size + 1 := by simp
  have b2 := b1.alloc (by omega) (.map #[] 0)
  have n0'' := n0'.any (.map #[] 0)
  have n1' := n1.any (.map #[] 0)
  generalize w2.alloc (.map #[] 0) = w3 at *
  have n3 := Blk.new w3 #[.slice none 0 0, .slice none 0 0, .map (some (w.heap.size + 1 + 1))] 238
  have s3 : (w3.alloc (.cells #[.slice none 0 0, .slice none 0 0, .map (some (w.heap.size + 1 + 1))] 238)).heap.size = w3.heap.size + 1 := by simp
  rw [s0] at n1'
  rw [show w2.heap.size = w.heap.size + 1 + 1 by omega] at m2
  rw [show w3.heap.size = w.heap.size + 1 + 1 + 1 by omega] at n3
  refine ⟨n0''.any _, n1'.any _, ⟨n3, by omega, by omega, World.ownsRow_nil _ _ _ _, fun b hb => (by cases hb), World.ownsRow_nil _ _ _ _, fun b hb => (by cases hb), rfl, fun k v l hv => (by simp at hv), fun k v hv => (by simp at hv), fun j k v u b _ hv => (by simp at hv), m2.alloc _, Tab.nil⟩, b2.alloc (by omega) _, by omega⟩
theorem flat_at (L : List St) (j c : Nat) (h : j < L.length) (hc : c < 3) : (L.flatMap St.cs)[j * 3 + c]? = (L[j].cs)[c]? := by
  induction L generalizing j with
  | nil => simp at h
  | cons s L ih =>
    rw [List.flatMap_cons]
    cases j with
    | zero =>
      rw [List.getElem?_append_left (by simp [St.cs]; omega)]
      simp
    | succ j =>
      have hs : s.cs.length = 3 := rfl
      rw [List.getElem?_append_right (by omega), hs, show (j + 1) * 3 + c - 3 = j * 3 + c by omega, ih j (by simpa using h)]
      simp
/-- The cells of a state in a row of states. -/
theorem st_cells {w : World} {base n : Nat} {A : Option Addr} {k : Nat} {L : List St} (h : w.ownsRow base 47 3 (.slice A n k) L.length (L.flatMap St.cs)) {j : Nat} (hj : j < L.length) :
    ∃ b, A = some ⟨b, 0, none⟩ ∧ b < w.heap.size ∧ w.cell? ⟨b, j * 3, none⟩ = some (.int .i64 L[j].mode) ∧ w.cell? ⟨b, j * 3 + 1, none⟩ = some (.int .i64 L[j].last) ∧ w.cell? ⟨b, j * 3 + 2, none⟩ = some (.int .u8 L[j].need) := by
  obtain ⟨hl, hf⟩ := id h
  rcases hf with ⟨_, h0⟩ | ⟨g, cap, cur, e, _, hblk, _⟩
  · omega
  · injection e with e1 e2 e3
    subst e1 e2 e3
    have key : ∀ c, c < 3 → w.cell? ⟨g, j * 3 + c, none⟩ = (L[j].cs)[c]? := fun c hc => by
      rw [h.cellAt (j * 3 + c) (by omega), flat_at L j c hj hc]
    refine ⟨g, rfl, Blk.lt hblk, key 0 (by omega), key 1 (by omega), key 2 (by omega)⟩
theorem own_setAt {w : World} {base n cap g i : Nat} {e : TypeId} {xs : List Value} (h : w.ownsRow base e 1 (.slice (some ⟨g, 0, none⟩) n cap) n xs) (_hi : i < n) (u : Value) : (w.setCell ⟨g, i, none⟩ u).ownsRow base e 1 (.slice (some ⟨g, 0, none⟩) n cap) n (xs.set i u) := by
  obtain ⟨hl, hf⟩ := id h
  refine ⟨by simpa using hl, ?_⟩
  rcases hf with ⟨h0, _⟩ | ⟨g', cap', cur, e1, hg, hblk, hnc, hcm, hcs, htk⟩
  · cases h0
  · injection e1 with e2 e3 e4
    injection e2 with e2
    injection e2 with e2
    subst e2 e4
    refine .inr ⟨g, cap, cur.setIfInBounds i u, rfl, hg, Blk.set hblk i u, hnc, hcm, by simpa using hcs, ?_⟩
    rw [Array.toList_setIfInBounds, ← htk, List.take_set]
/-- One more place from which a rule leads to a state. -/
theorem edge_end {K : Nat → Prop} {w4 w5 : World} {q mb bb kb kx j : Nat} {L : List St} {B : List (List Nat)} {SV v v' : Value} {vs : List Value} {D : DataW Unit} {l : List Nat} (hK : ∀ b, K b → b < w4.heap.size)
    (hG : GB K w4 q mb L B SV (.slice (some ⟨bb, 0, none⟩) B.length kb) vs D) (hk : kx < B.length) (hv : vs[kx]? = some v) (hl : B[kx]? = some l)
    (g5 : w4.grownBy w5 v.ownBlock) (o5 : w5.ownsRow 0 3 1 v' (l.length + 1) ((l.map fun i : Nat => Value.int .i64 i) ++ [.int .i64 j])) (loc : v'.ownBlock = v.ownBlock ∨ ∃ b, v'.ownBlock = some b ∧ w4.heap.size ≤ b) :
    GA K (w5.setCell ⟨bb, kx, none⟩ v') q mb L (addB B kx j) ∧ KeptK K w4 (w5.setCell ⟨bb, kx, none⟩ v') := by
  have hvr := hG.row kx v l hv hl
  have hbb : ∃ cur, Blk w4 bb 43 cur := own_blk hG.bv rfl
  obtain ⟨bcur, hbc⟩ := hbb
  have hnb : ¬ K bb := hG.kb bb rfl
  have hvl := hG.vlen
  have key : ∀ b, b < w4.heap.size → v.ownBlock ≠ some b → b ≠ bb → (w5.setCell ⟨bb, kx, none⟩ v').heap[b]? = w4.heap[b]? := fun b hb h1 h2 =>
    (Below.heap_setCell w5 ⟨bb, kx, none⟩ v' b h2).trans (g5.block b hb (Ne.symm h1))
  have hb5 : Blk w5 bb 43 bcur := (g5.block bb hbc.lt (own_ne3 hvr hbc (by decide)).symm).trans hbc
  have hgd : B.getD kx [] = l := by rw [List.getD_eq_getElem?_getD, hl]; rfl
  refine ⟨⟨SV, .slice (some ⟨bb, 0, none⟩) B.length kb, vs.set kx v', D, ?_⟩, ?_⟩
  · unfold addB
    rw [hgd]
    refine ⟨(key q hG.blk.lt (own_ne3 hvr hG.blk (by decide)) (Blk.type_ne hG.blk hbc (by decide))).trans hG.blk, hG.kq, hG.km, ?_, hG.ks, ?_, ?_, by rw [List.length_set]; exact hG.len, ?_, ?_, ?_, ?_, hG.tab⟩
    · exact own_move hG.sv fun b hb => by
        obtain ⟨cur, hc⟩ := own_blk hG.sv hb
        exact key b hc.lt (own_ne3 hvr hc (by decide)) (Blk.type_ne hc hbc (by decide))
    · have h5 : w5.ownsRow 0 43 1 (.slice (some ⟨bb, 0, none⟩) B.length kb) B.length vs := own_move hG.bv fun b hb => by
        obtain ⟨cur, hc⟩ := own_blk hG.bv hb
        exact g5.block b hc.lt (own_ne3 hvr hc (by decide)).symm
      have h6 := own_setAt h5 hk v'
      simpa using h6
    · exact hG.kb
    · intro i u t hu ht
      by_cases hi : kx = i
      · subst hi
        rw [List.getElem?_set_self (by omega)] at hu
        rw [List.getElem?_set_self hk] at ht
        injection hu with hu
        injection ht with ht
        subst hu ht
        have h6 := own_set (i := kx) o5 hb5 (by decide) v'
        simpa using h6
      · rw [List.getElem?_set_ne hi] at hu ht
        refine own_move (hG.row i u t hu ht) fun b hb => ?_
        obtain ⟨cur, hc⟩ := own_blk (hG.row i u t hu ht) hb
        exact key b hc.lt (fun e => hG.sep kx i v u b hi hv hu e hb) (Blk.type_ne hc hbc (by decide))
    · intro i u hu
      by_cases hi : kx = i
      · subst hi
        rw [List.getElem?_set_self (by omega)] at hu
        injection hu with hu
        subst hu
        intro b hb hKb
        rcases loc with h | ⟨b', h, hb'⟩
        · exact hG.kr kx v hv b (by rw [← h]; exact hb) hKb
        · rw [hb] at h
          injection h with h
          have := hK b hKb
          omega
      · rw [List.getElem?_set_ne hi] at hu
        exact hG.kr i u hu
    · intro i i' u u' b hii hu hu' hb
      have hlt : ∀ (y : Nat) (x : Value) (b' : Nat), vs[y]? = some x → x.ownBlock = some b' → b' < w4.heap.size := fun y x b' hx hb' => by
        have hy : y < vs.length := (List.getElem?_eq_some_iff.1 hx).1
        obtain ⟨cur, hc⟩ := own_blk (hG.row y x (B[y]'(by omega)) hx (List.getElem?_eq_getElem (by omega))) hb'
        exact hc.lt
      by_cases hi : kx = i
      · subst hi
        rw [List.getElem?_set_self (by omega)] at hu
        injection hu with hu
        subst hu
        rw [List.getElem?_set_ne hii] at hu'
        rcases loc with h | ⟨b', h, hb'⟩
        · exact hG.sep kx i' v u' b hii hv hu' (by rw [← h]; exact hb)
        · rw [hb] at h
          injection h with h
          intro e
          have := hlt i' u' b hu' e
          omega
      · rw [List.getElem?_set_ne hi] at hu
        by_cases hi' : kx = i'
        · subst hi'
          rw [List.getElem?_set_self (by omega)] at hu'
          injection hu' with hu'
          subst hu'
          intro e
          rcases loc with h | ⟨b', h, hb'⟩
          · exact hG.sep i kx u v b hii hu hv hb (by rw [← h]; exact e)
          · rw [e] at h
            injection h with h
            have := hlt i u b hu hb
            omega
        · rw [List.getElem?_set_ne hi'] at hu'
          exact hG.sep i i' u u' b hii hu hu' hb
    · exact map_move hG.map (key mb hG.map.lt (fun e => by
        obtain ⟨cur, hc⟩ := own_blk hvr e
        exact map_blk hG.map hc rfl) (fun e => map_blk hG.map hbc e.symm))
  · refine ⟨g5.os, g5.tape, g5.output, by have := g5.size; simp; omega, fun b hb => key b (hK b hb) (fun e => hG.kr kx v hv b e hb) (fun e => hnb (e ▸ hb))⟩
def LenB (B : List (List Nat)) (c : Nat) : Prop := ∀ l ∈ B, l.length ≤ c
theorem edge_len {rs : List Rule} {i r c : Nat} {s : St} {G : Gr} (h : LenB G.2 c) : LenB (edgeG rs i s r G).2 (c + 1) := by
  unfold edgeG
  split
  · have h1 : LenB (insB G.1 G.2 (stepS rs s r).1) c := by
      unfold insB
      split
      · exact h
      · intro l hl
        rcases List.mem_append.1 hl with g | g
        · exact h l g
        · simp at g; subst g; simp
    intro l hl
    unfold addB at hl
    rcases List.mem_or_eq_of_mem_set hl with g | g
    · have := h1 l g; omega
    · rw [g, List.length_append]
      have : ((insB G.1 G.2 (stepS rs s r).1).getD (G.1.idxOf (stepS rs s r).1) []).length ≤ c := by
        rw [List.getD_eq_getElem?_getD]
        cases hx : (insB G.1 G.2 (stepS rs s r).1)[G.1.idxOf (stepS rs s r).1]? with
        | none => simp
        | some x => exact h1 x (List.mem_of_getElem? hx)
      rw [List.length_singleton]; omega
  · exact fun l hl => by have := h l hl; omega
theorem row_len {rs : List Rule} {i c : Nat} {s : St} {G : Gr} (h : LenB G.2 c) : ∀ n, LenB (rowG rs i s n G).2 (c + n) := by
  intro n
  induction n with
  | zero => exact h
  | succ n ih => exact edge_len ih
theorem GA.move {K : Nat → Prop} {w w' : World} {q mb : Nat} {L : List St} {B : List (List Nat)} (h : GA K w q mb L B) (hk : ∀ b, b < w.heap.size → ¬ K b → w'.heap[b]? = w.heap[b]?) : GA K w' q mb L B := by
  obtain ⟨SV, BV, vs, D, hg⟩ := h
  exact ⟨SV, BV, vs, D, hg.move hk⟩
end Go.Proofs.Ytpkdlljefkbmpaa
