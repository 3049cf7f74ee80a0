/- Merged by program: Gr1 Inv5 Gr2 Inv6 Gr3 RawUp Gr4 -/
import Derived.Test.YtpkdlljefkbmpaaQ14
import Derived.Maps.OwnSet
import Derived.Maps.AppendAt
import Derived.Maps.Views
import Derived.DeepKeys4
import Derived.Test.YtpkdlljefkbmpaaQ13
import Derived.BigRegion
import Derived.Deep.Cut
import Derived.Deep.CutRange
import Derived.Test.YtpkdlljefkbmpaaQ11
import Derived.Deep.LoopGhost
import Derived.Deep.CutBlock

/-! Package automaton: the states that a table reaches, as a list and as a map's keys. -/
namespace Go.Proofs.Ytpkdlljefkbmpaa
open Go.RowKit Go.Maps

def keyS (s : St) : Lit := .string (keyBytes [.int .i64 s.mode, .int .i64 s.last, .int .u8 s.need])
theorem st_wide : (match Try.prog.underlying 47 with | some (.array _ _) | some (.struct _) => true | _ => false) = true := by kernel_rfl
set_option maxRecDepth 10000 in
theorem law : Keyed Try.prog 47 := Keyed.of_law (deep_law_laid (by kernel_rfl) (m := 3) (by omega) (of_decide_eq_true (by kernel_rfl)) (by kernel_rfl) st_wide)
theorem st_isS : ∃ fs, Try.prog.underlying 47 = some (.struct fs) := ⟨_, Try.underlying47⟩
theorem keyS_of (s : St) (h : s.fits) : keyOf Try.prog 47 s.val = some (keyS s) := by
 have hk : Try.prog.keyType 47 = true := by kernel_rfl
 have hf : s.val.formed Try.prog 47 = true := by
  obtain ⟨fs, hu⟩ := st_isS
  have hc : Try.prog.cellsOf 47 = 3 := by kernel_rfl
  simp [Value.formed, hu, hc, St.val]
 obtain ⟨d, hd⟩ : ∃ d, Try.prog.types.size = d + 1 := ⟨Try.prog.types.size - 1, by have : 0 < Try.prog.types.size := of_decide_eq_true (by kernel_rfl); omega⟩
 have c3 : Try.prog.cellsOf 3 = 1 := by kernel_rfl
 have c5 : Try.prog.cellsOf 5 = 1 := by kernel_rfl
 have c26 : Try.prog.cellsOf 47 = 3 := by kernel_rfl
 have w0 : (Lit.int .i64 s.mode).wf = true := WalkArith.wf_i64 (by have := h.1; omega)
 have w1 : (Lit.int .i64 s.last).wf = true := WalkArith.wf_i64 (by have := h.2.1; omega)
 have w2 : (Lit.int .u8 s.need).wf = true := WalkArith.wf_u8 (by have := h.2.2; omega)
 have hl : Try.prog.keyLits (Try.prog.types.size + 1) 47 s.val.cells.toList = some [.int .i64 s.mode, .int .i64 s.last, .int .u8 s.need] := by
  rw [hd]
  simp [Program.keyLits, Try.underlying47, Try.underlying3, Try.underlying5, c3, c5, c26, St.val, Value.cells, w0, w1, w2]
 obtain ⟨fs, hu⟩ := st_isS
 unfold keyOf
 rw [hu]
 dsimp only
 rw [hk, hf, hl]
 rfl
theorem keyS_ne {s t : St} (hs : s.fits) (ht : t.fits) (h : s ≠ t) : keyS s ≠ keyS t := by
 intro e
 have h1 := keyS_of s hs
 rw [e] at h1
 have h2 := law.inj h1 (keyS_of t ht)
 apply h
 obtain ⟨a, b, c⟩ := s
 obtain ⟨a', b', c'⟩ := t
 simp [St.val] at h2
 simp [h2]
def insS (L : List St) (s : St) : List St := if s ∈ L then L else L ++ [s]
def insB (L : List St) (B : List (List Nat)) (s : St) : List (List Nat) := if s ∈ L then B else B ++ [[]]
def Tab (D : DataW Unit) (L : List St) : Prop :=
 IsMap D ∧ ∀ s : St, s.fits → Maps.has D (keyS s) = decide (s ∈ L) ∧ (s ∈ L → D.atKey (keyS s) (.lit (.int .i64 0)) = .lit (.int .i64 (L.idxOf s : Nat)))
theorem Tab.nil : Tab (.map []) [] := ⟨isMap_empty, fun s _ => ⟨by simp [Maps.has], fun h => absurd h (by simp)⟩⟩
theorem Tab.put {D : DataW Unit} {L : List St} {s : St} (h : Tab D L) (hs : s.fits) (hn : s ∉ L) : Tab (D.put (keyS s) (.lit (.int .i64 (L.length : Nat)))) (L ++ [s]) := by
 obtain ⟨hD, hT⟩ := h
 have hk : WideAt.IsKeyLit (keyS s) := law.key (keyS_of s hs)
 refine ⟨hD.put _ _, fun t ht => ?_⟩
 by_cases e : t = s
 ·
  subst e
  refine ⟨by rw [has_put_same hD hk]; simp, fun _ => ?_⟩
  rw [atKey_put_same hD hk, List.idxOf_append, if_neg hn]
  simp
 ·
  have hne := keyS_ne ht hs e
  obtain ⟨h1, h2⟩ := hT t ht
  refine ⟨by rw [has_put_other hne, h1]; simp [e], fun hm => ?_⟩
  have hm2 : t ∈ L := by simpa [e] using hm
  rw [atKey_put_other hne, h2 hm2, List.idxOf_append, if_pos hm2]
end Go.Proofs.Ytpkdlljefkbmpaa

/-! A region that draws its order, some of whose operations have been taken already: the others ahead of the tail by one invariant, each once. -/
namespace Go.Proofs.Ytpkdlljefkbmpaa
open Go.RowKit

end Go.Proofs.Ytpkdlljefkbmpaa

/-! Package automaton: a graph in memory; the place of a state. -/
namespace Go.Proofs.Ytpkdlljefkbmpaa
open Go.RowKit Go.Maps

def St.cs (s : St) : List Value := [.int .i64 s.mode, .int .i64 s.last, .int .u8 s.need]
def NoK (K : Nat → Prop) (v : Value) : Prop := ∀ b, v.ownBlock = some b → ¬ K b
theorem own_move {w w' : World} {base size n : Nat} {e : TypeId} {v : Value} {xs : List Value} (h : w.ownsRow base e size v n xs) (hk : ∀ b, v.ownBlock = some b → w'.heap[b]? = w.heap[b]?) : w'.ownsRow base e size v n xs := by
 obtain ⟨hl, hf⟩ := id h
 refine ⟨hl, ?_⟩
 rcases hf with h0 | ⟨g, cap, cur, rfl, hg, hblk, hr⟩
 ·
  exact .inl h0
 ·
  exact .inr ⟨g, cap, cur, rfl, hg, (hk g rfl).trans hblk, hr⟩
theorem own_blk {w : World} {base size n b : Nat} {e : TypeId} {v : Value} {xs : List Value} (h : w.ownsRow base e size v n xs) (hb : v.ownBlock = some b) : ∃ cur, Blk w b e cur := by
 rcases h.2 with ⟨rfl, _⟩ | ⟨g, cap, cur, rfl, _, hblk, _⟩
 ·
  cases hb
 ·
  obtain rfl : g = b := by simpa [Value.ownBlock] using hb
  exact ⟨cur, hblk⟩
theorem map_move {w w' : World} {P : Program} {k : TypeId} {R : Value → Option (DataW Unit × List MemPlace)} {b n : Nat} {D : DataW Unit} (h : w.ownsMap P k R b n D) (e : w'.heap[b]? = w.heap[b]?) : w'.ownsMap P k R b n D := by
 obtain ⟨es, clock, hb, F, hs, hD⟩ := h
 exact ⟨es, clock, e.trans hb, F, hs, hD⟩
structure GB (K : Nat → Prop) (w : World) (q mb : Nat) (L : List St) (B : List (List Nat)) (SV BV : Value) (vs : List Value) (D : DataW Unit) : Prop where
 blk : Blk w q 238 #[SV, BV, .map (some mb)]
 kq : ¬ K q
 km : ¬ K mb
 sv : w.ownsRow 0 47 3 SV L.length (L.flatMap St.cs)
 ks : NoK K SV
 bv : w.ownsRow 0 43 1 BV B.length vs
 kb : NoK K BV
 len : B.length = L.length
 row : ∀ (k : Nat) (v : Value) (l : List Nat), vs[k]? = some v → B[k]? = some l → w.ownsRow 0 3 1 v l.length (l.map fun i : Nat => .int .i64 i)
 kr : ∀ (k : Nat) (v : Value), vs[k]? = some v → NoK K v
 sep : ∀ (j k : Nat) (v u : Value) (b : Nat), j ≠ k → vs[j]? = some v → vs[k]? = some u → v.ownBlock = some b → u.ownBlock ≠ some b
 map : w.ownsMap Try.prog 47 (plainElem Try.prog 3) mb L.length D
 tab : Tab D L
theorem GB.vlen {K : Nat → Prop} {w : World} {q mb : Nat} {L : List St} {B : List (List Nat)} {SV BV : Value} {vs : List Value} {D : DataW Unit} (h : GB K w q mb L B SV BV vs D) : vs.length = B.length := by
 have := h.bv.1; omega
theorem GB.move {K : Nat → Prop} {w w' : World} {q mb : Nat} {L : List St} {B : List (List Nat)} {SV BV : Value} {vs : List Value} {D : DataW Unit} (h : GB K w q mb L B SV BV vs D) (hk : ∀ b, b < w.heap.size → ¬ K b → w'.heap[b]? = w.heap[b]?) : GB K w' q mb L B SV BV vs D := by
 have hrow : ∀ {base size n : Nat} {e : TypeId} {v : Value} {xs : List Value}, w.ownsRow base e size v n xs → NoK K v → w'.ownsRow base e size v n xs := fun ho hn => own_move ho fun b hb => by
  obtain ⟨cur, hc⟩ := own_blk ho hb
  exact hk b hc.lt (hn b hb)
 have hvl := h.vlen
 refine ⟨(hk q h.blk.lt h.kq).trans h.blk, h.kq, h.km, hrow h.sv h.ks, h.ks, hrow h.bv h.kb, h.kb, h.len, fun k v l hv hl => hrow (h.row k v l hv hl) (h.kr k v hv), h.kr, h.sep, map_move h.map (hk mb h.map.lt h.km), h.tab⟩
theorem GB.more {K K' : Nat → Prop} {w : World} {q mb : Nat} {L : List St} {B : List (List Nat)} {SV BV : Value} {vs : List Value} {D : DataW Unit} (h : GB K w q mb L B SV BV vs D) (hk : ∀ b, K' b → K b ∨ w.heap.size ≤ b) : GB K' w q mb L B SV BV vs D := by
 have hno : ∀ {base size n : Nat} {e : TypeId} {v : Value} {xs : List Value}, w.ownsRow base e size v n xs → NoK K v → NoK K' v := fun ho hn b hb hK' => by
  obtain ⟨cur, hc⟩ := own_blk ho hb
  rcases hk b hK' with g | g
  ·
   exact hn b hb g
  ·
   have := hc.lt; omega
 have hn1 : ∀ b, b < w.heap.size → ¬ K b → ¬ K' b := fun b hb hnk hK' => by
  rcases hk b hK' with g | g
  ·
   exact hnk g
  ·
   omega
 have hvl := h.vlen
 refine ⟨h.blk, hn1 q h.blk.lt h.kq, hn1 mb h.map.lt h.km, h.sv, hno h.sv h.ks, h.bv, hno h.bv h.kb, h.len, h.row, fun k v hv => ?_, h.sep, h.map, h.tab⟩
 have hk1 : k < vs.length := (List.getElem?_eq_some_iff.1 hv).1
 exact hno (h.row k v (B[k]'(by omega)) hv (List.getElem?_eq_getElem (by omega))) (h.kr k v hv)
def GA (K : Nat → Prop) (w : World) (q mb : Nat) (L : List St) (B : List (List Nat)) : Prop := ∃ SV BV vs D, GB K w q mb L B SV BV vs D
theorem own_shape {w : World} {base size n : Nat} {e : TypeId} {v : Value} {xs : List Value} (h : w.ownsRow base e size v n xs) : ∃ A k, v = .slice A n k := by
 rcases h.2 with ⟨rfl, rfl⟩ | ⟨g, cap, cur, rfl, _⟩
 ·
  exact ⟨_, _, rfl⟩
 ·
  exact ⟨_, _, rfl⟩
theorem info_int : (Try.prog.info? 3).map (fun i => (i.zero, i.size, i.bytes)) = some (some (.int .i64 0), 1, 8) := by kernel_rfl
theorem info_st : (Try.prog.info? 47).map (fun i => (i.zero, i.size, i.bytes)) = some (some (.agg #[.int .i64 0, .int .i64 0, .int .u8 0]), 3, 24) := by kernel_rfl
theorem info_ints : (Try.prog.info? 43).map (fun i => (i.zero, i.size, i.bytes)) = some (some (.slice none 0 0), 1, 24) := by kernel_rfl
theorem Blk.news {w : World} {b : Nat} {t : TypeId} {l : List Value} (h : Blk w b t l.toArray) : ∀ (j : Nat) (u : Value), l[j]? = some u → w.cell? ((⟨b, 0, none⟩ : Addr).add j) = some u := fun j u hj => by
 rw [add_zero_addr, h.cell j]
 simpa using hj
end Go.Proofs.Ytpkdlljefkbmpaa

/-! A region that draws its order: operations that make or write, in whatever order, each of which says what it keeps; what comes behind all of them. -/
namespace Go.Proofs.Ytpkdlljefkbmpaa
open Go.RowKit

end Go.Proofs.Ytpkdlljefkbmpaa

/-! Package automaton, purely: the states that are found, and from where rules lead to each. -/
namespace Go.Proofs.Ytpkdlljefkbmpaa
open Go.RowKit Go.Maps

def St.ok (s : St) (m : Int) : Prop := (0 ≤ s.mode ∧ s.mode < m) ∧ (0 ≤ s.last ∧ s.last ≤ 5) ∧ (0 ≤ s.need ∧ s.need < 64)
theorem St.ok.fit {s : St} {m : Int} (h : s.ok m) (hm : m ≤ 8) : s.fits := by
 obtain ⟨h1, h2, h3⟩ := h
 exact ⟨by omega, by omega, by omega⟩
theorem start_ok {m : Int} (h : 1 ≤ m) : St.start.ok m := ⟨⟨by decide, by show (0 : Int) < m; omega⟩, by decide, by decide⟩
theorem cls_bd (b : Int) : 0 ≤ clsI b ∧ clsI b ≤ 5 := by
 unfold clsI
 split
 ·
  omega
 ·
  split
  ·
   omega
  ·
   split
   ·
    omega
   ·
    split <;> omega
theorem and_bd (a b : Int) (h1 : 0 ≤ a) (h2 : a < 64) (h3 : 0 ≤ b) (h4 : b < 64) : 0 ≤ bits .and .u8 a b ∧ bits .and .u8 a b < 64 := by
 have h := allB2_out (n := 64) (m := 64) (p := fun a b => decide (0 ≤ bits .and .u8 (a : Int) (b : Int)) && decide (bits .and .u8 (a : Int) (b : Int) < 64)) (by decide +kernel) a.toNat b.toNat (by omega) (by omega)
 rw [show ((a.toNat : Nat) : Int) = a from by omega, show ((b.toNat : Nat) : Int) = b from by omega, Bool.and_eq_true] at h
 exact ⟨of_decide_eq_true h.1, of_decide_eq_true h.2⟩
theorem stepS_some {rs : List Rule} {s : St} {k : Int} (h : (stepS rs s k).2 = true) : ∃ x ∈ rs, stepR x s = some (stepS rs s k).1 := by
 unfold stepS at h ⊢
 split at h
 ·
  cases h
 ·
  rename_i hk
  rw [if_neg hk]
  cases hx : rs[k.toNat]? with
  | none => rw [hx] at h; cases h
  | some x =>
   rw [hx] at h
   dsimp only at h ⊢
   cases hr : stepR x s with
   | none => rw [hr] at h; cases h
   | some t => exact ⟨x, List.mem_of_getElem? hx, hr⟩
theorem step_ok {m a : Int} {rs : List Rule} (hG : GoodL m a rs) (hf : ∀ x ∈ rs, x.fits) {s : St} (hs : s.ok m) {k : Int} (h : (stepS rs s k).2 = true) : (stepS rs s k).1.ok m := by
 obtain ⟨x, hx, hr⟩ := stepS_some h
 have h1 := hG.2.2 x hx
 obtain ⟨f1, f2, f3, f4, f5, f6, f7⟩ := hf x hx
 unfold soundB maskB modeB at h1
 simp only [Bool.and_eq_true, decide_eq_true_eq] at h1
 obtain ⟨⟨⟨⟨_, s5⟩, s6⟩, s7⟩, s8⟩ := h1
 unfold stepR at hr
 split at hr
 ·
  cases hr
 ·
  injection hr with hr
  rw [← hr]
  unfold afterS
  split
  ·
   have := and_bd s.need x.r hs.2.2.1 hs.2.2.2 f5.1 (by omega)
   exact ⟨s8, hs.2.1, this⟩
  ·
   exact ⟨s8, cls_bd _, f5.1, by show x.r < 64; omega⟩
theorem nodup_le : ∀ (n : Nat) (l : List Nat), l.Nodup → (∀ x ∈ l, x < n) → l.length ≤ n := by
 intro n
 induction n with
 | zero =>
  intro l _ h
  cases l with
  | nil => simp
  | cons a l => have := h a (by simp); omega
 | succ n ih =>
  intro l hd h
  have h1 := ih (l.erase n) (hd.erase n) fun x hx => by
   have h2 := h x (List.mem_of_mem_erase hx)
   have h3 : x ≠ n := fun e => by rw [e] at hx; exact (hd.not_mem_erase) hx
   omega
  rw [List.length_erase] at h1
  split at h1 <;> omega
def St.code (s : St) : Nat := (s.mode.toNat * 6 + s.last.toNat) * 64 + s.need.toNat
theorem code_inj {s t : St} {m : Int} (hs : s.ok m) (ht : t.ok m) (h : s.code = t.code) : s = t := by
 obtain ⟨h1, h2, h3⟩ := hs
 obtain ⟨g1, g2, g3⟩ := ht
 obtain ⟨a, b, c⟩ := s
 obtain ⟨a', b', c'⟩ := t
 unfold St.code at h
 simp only at h h1 h2 h3 g1 g2 g3
 have e1 : c = c' := by omega
 have e2 : b = b' := by omega
 have e3 : a = a' := by omega
 rw [e1, e2, e3]
theorem states_le {m : Int} {L : List St} (hm : 0 ≤ m) (hd : L.Nodup) (h : ∀ s ∈ L, s.ok m) : L.length ≤ m.toNat * 384 := by
 have hn : (L.map St.code).Nodup := by
  unfold List.Nodup
  rw [List.pairwise_map]
  refine List.Pairwise.imp_of_mem ?_ hd
  intro s t hs ht hne e
  exact hne (code_inj (h s hs) (h t ht) e)
 have := nodup_le (m.toNat * 384) (L.map St.code) hn fun x hx => by
  rw [List.mem_map] at hx
  obtain ⟨s, hs, rfl⟩ := hx
  obtain ⟨h1, h2, h3⟩ := h s hs
  unfold St.code
  omega
 simpa using this
abbrev Gr := List St × List (List Nat)
def addB (B : List (List Nat)) (k i : Nat) : List (List Nat) := B.set k ((B.getD k []) ++ [i])
def edgeG (rs : List Rule) (i : Nat) (s : St) (r : Nat) (G : Gr) : Gr :=
 if (stepS rs s r).2 = true ∧ (stepS rs s r).1 ≠ s then (insS G.1 (stepS rs s r).1, addB (insB G.1 G.2 (stepS rs s r).1) (G.1.idxOf (stepS rs s r).1) i) else G
def rowG (rs : List Rule) (i : Nat) (s : St) : Nat → Gr → Gr
 | 0, G => G
 | n + 1, G => edgeG rs i s n (rowG rs i s n G)
def expG (rs : List Rule) : Nat → Nat → Gr → Gr
 | 0, _, G => G
 | f + 1, i, G => match G.1[i]? with
  | some s => expG rs f (i + 1) (rowG rs i s rs.length G)
  | none => G
def startG : Gr := ([St.start], [[]])
def theG (rs : List Rule) : Gr := expG rs 4000 0 startG
def OkG (m : Int) (G : Gr) : Prop := (∀ s ∈ G.1, s.ok m) ∧ G.1.Nodup ∧ G.2.length = G.1.length
theorem mem_insS {L : List St} {s t : St} : t ∈ insS L s ↔ t ∈ L ∨ t = s := by
 unfold insS
 split
 ·
  rename_i h
  constructor
  ·
   exact .inl
  ·
   rintro (h1 | rfl)
   ·
    exact h1
   ·
    exact h
 ·
  simp
theorem nodup_insS {L : List St} {s : St} (h : L.Nodup) : (insS L s).Nodup := by
 unfold insS
 split
 ·
  exact h
 ·
  rename_i hn
  rw [List.nodup_append]
  exact ⟨h, by simp, fun a ha b hb e => by simp at hb; subst hb; subst e; exact hn ha⟩
theorem len_insB {L : List St} {B : List (List Nat)} {s : St} (h : B.length = L.length) : (insB L B s).length = (insS L s).length := by
 unfold insB insS
 split
 ·
  exact h
 ·
  simp [h]
theorem edge_ok {m a : Int} {rs : List Rule} (hG : GoodL m a rs) (hf : ∀ x ∈ rs, x.fits) {i r : Nat} {s : St} {G : Gr} (hs : s.ok m) (h : OkG m G) : OkG m (edgeG rs i s r G) := by
 unfold edgeG
 split
 ·
  rename_i hc
  obtain ⟨h1, h2, h3⟩ := h
  refine ⟨fun t ht => ?_, nodup_insS h2, ?_⟩
  ·
   rcases mem_insS.1 ht with g | rfl
   ·
    exact h1 t g
   ·
    exact step_ok hG hf hs hc.1
  ·
   unfold addB
   rw [List.length_set]
   exact len_insB h3
 ·
  exact h
theorem row_ok {m a : Int} {rs : List Rule} (hG : GoodL m a rs) (hf : ∀ x ∈ rs, x.fits) {i : Nat} {s : St} {G : Gr} (hs : s.ok m) (h : OkG m G) : ∀ n, OkG m (rowG rs i s n G) := by
 intro n
 induction n with
 | zero => exact h
 | succ n ih => exact edge_ok hG hf hs ih
theorem startG_ok {m : Int} (h : 1 ≤ m) : OkG m startG := ⟨fun s hs => by simp [startG] at hs; subst hs; exact start_ok h, by simp [startG], rfl⟩
theorem OkG.le {m : Int} {G : Gr} (h : OkG m G) (hm : 0 ≤ m ∧ m ≤ 8) : G.1.length ≤ 3072 := by
 have := states_le hm.1 h.2.1 h.1
 omega
end Go.Proofs.Ytpkdlljefkbmpaa

/-! A description of a table stays what it is. -/
namespace Go.Proofs.Ytpkdlljefkbmpaa
open Go.RowKit

theorem RawMs.up {w w' : World} {A : Option Addr} {n : Nat} (h : RawMs w w.heap.size A n) (hb : Below w.heap.size w w') : RawMs w' w'.heap.size A n := fun h0 => by
 obtain ⟨b, o, e, hB, hc⟩ := h h0
 refine ⟨b, o, e, by have := hb.size; omega, fun j hj => ?_⟩
 obtain ⟨PA, np, kp, CA, nc, kc, ps, cs, l, r, u0, u1, d0, d1, d2, d3, d4, d5, hp, hcn, hP, hC, rest⟩ := hc j hj
 have key : ∀ i, w'.cell? ⟨b, i, none⟩ = w.cell? ⟨b, i, none⟩ := fun i => hb.cell (p := ⟨b, i, none⟩) hB
 exact ⟨PA, np, kp, CA, nc, kc, ps, cs, l, r, u0, u1, (key _).trans d0, (key _).trans d1, (key _).trans d2, (key _).trans d3, (key _).trans d4, (key _).trans d5, hp, hcn, hP.up hb, hC.up hb, rest⟩
theorem Rules.fit {w : World} {B : Nat} {A : Option Addr} {rs : List Rule} (h : Rules w B A rs) : ∀ x ∈ rs, x.fits := by
 intro x hx
 obtain ⟨j, hj, rfl⟩ := List.getElem_of_mem hx
 obtain ⟨b, o, _, _, hc⟩ := h (by omega)
 obtain ⟨_, _, _, _, _, _, _, _, _, hf⟩ := hc j hj
 exact hf
end Go.Proofs.Ytpkdlljefkbmpaa

/-! Package automaton: a graph in memory gets one more edge. -/
namespace Go.Proofs.Ytpkdlljefkbmpaa
open Go.RowKit Go.Maps

theorem Blk.any {w : World} {g : Nat} {t : TypeId} {row : Array Value} (h : Blk w g t row) (o : Obj) : Blk (w.alloc o) g t row := by
 unfold Blk
 rw [(below_any w o).block g h.lt]
 exact h
 where below_any (w : World) (o : Obj) : Below w.heap.size w (w.alloc o) := (Below.refl _ _).alloc (Nat.le_refl _) _
theorem flat_at (L : List St) (j c : Nat) (h : j < L.length) (hc : c < 3) : (L.flatMap St.cs)[j * 3 + c]? = (L[j].cs)[c]? := by
 induction L generalizing j with
 | nil => simp at h
 | cons s L ih =>
  rw [List.flatMap_cons]
  cases j with
  | zero =>
   rw [List.getElem?_append_left (by simp [St.cs]; omega)]
   simp
  | succ j =>
   have hs : s.cs.length = 3 := rfl
   rw [List.getElem?_append_right (by omega), hs, show (j + 1) * 3 + c - 3 = j * 3 + c by omega, ih j (by simpa using h)]
   simp
theorem st_cells {w : World} {base n : Nat} {A : Option Addr} {k : Nat} {L : List St} (h : w.ownsRow base 47 3 (.slice A n k) L.length (L.flatMap St.cs)) {j : Nat} (hj : j < L.length) :
  ∃ b, A = some ⟨b, 0, none⟩ ∧ b < w.heap.size ∧ w.cell? ⟨b, j * 3, none⟩ = some (.int .i64 L[j].mode) ∧ w.cell? ⟨b, j * 3 + 1, none⟩ = some (.int .i64 L[j].last) ∧ w.cell? ⟨b, j * 3 + 2, none⟩ = some (.int .u8 L[j].need) := by
 obtain ⟨hl, hf⟩ := id h
 rcases hf with ⟨_, h0⟩ | ⟨g, cap, cur, e, _, hblk, _⟩
 ·
  omega
 ·
  injection e with e1 e2 e3
  subst e1 e2 e3
  have key : ∀ c, c < 3 → w.cell? ⟨g, j * 3 + c, none⟩ = (L[j].cs)[c]? := fun c hc => by
   rw [h.cellAt (j * 3 + c) (by omega), flat_at L j c hj hc]
  refine ⟨g, rfl, Blk.lt hblk, key 0 (by omega), key 1 (by omega), key 2 (by omega)⟩
theorem own_setAt {w : World} {base n cap g i : Nat} {e : TypeId} {xs : List Value} (h : w.ownsRow base e 1 (.slice (some ⟨g, 0, none⟩) n cap) n xs) (_hi : i < n) (u : Value) : (w.setCell ⟨g, i, none⟩ u).ownsRow base e 1 (.slice (some ⟨g, 0, none⟩) n cap) n (xs.set i u) := by
 obtain ⟨hl, hf⟩ := id h
 refine ⟨by simpa using hl, ?_⟩
 rcases hf with ⟨h0, _⟩ | ⟨g', cap', cur, e1, hg, hblk, hnc, hcm, hcs, htk⟩
 ·
  cases h0
 ·
  injection e1 with e2 e3 e4
  injection e2 with e2
  injection e2 with e2
  subst e2 e4
  refine .inr ⟨g, cap, cur.setIfInBounds i u, rfl, hg, Blk.set hblk i u, hnc, hcm, by simpa using hcs, ?_⟩
  rw [Array.toList_setIfInBounds, ← htk, List.take_set]
theorem GA.move {K : Nat → Prop} {w w' : World} {q mb : Nat} {L : List St} {B : List (List Nat)} (h : GA K w q mb L B) (hk : ∀ b, b < w.heap.size → ¬ K b → w'.heap[b]? = w.heap[b]?) : GA K w' q mb L B := by
 obtain ⟨SV, BV, vs, D, hg⟩ := h
 exact ⟨SV, BV, vs, D, hg.move hk⟩
end Go.Proofs.Ytpkdlljefkbmpaa
