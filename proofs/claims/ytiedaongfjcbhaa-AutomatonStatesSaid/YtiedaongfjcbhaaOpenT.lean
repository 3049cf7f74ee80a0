/- Opening an argument that is a table: its numbers, and its rules where they lie. -/
import Derived.Test.YtiedaongfjcbhaaTab11
import Derived.ChangeOld
import Derived.OpenShut
import Derived.Deep.Slices
import Derived.Deep.Fields
import Derived.ChangeArms
namespace Go.Proofs.Ytiedaongfjcbhaa
open Go.ChangeShapes Go.WideShapes Go.RowKit Go.Deep

instance : Inhabited Rule := ⟨⟨ByteArray.empty, [], 0, 0, 0, 0⟩⟩
/-- What the types alone say of a rule. -/
def Rule.wide (x : Rule) : Prop :=
  (∀ z ∈ x.c, 0 ≤ z ∧ z < 256) ∧ (0 ≤ x.l ∧ x.l < 256) ∧ (0 ≤ x.r ∧ x.r < 256) ∧ (-9223372036854775808 ≤ x.f ∧ x.f ≤ 9223372036854775807) ∧ (-9223372036854775808 ≤ x.t ∧ x.t ≤ 9223372036854775807)
/-- The six cells of a rule of whatever size. -/
def RawAt (w : World) (B b o : Nat) (x : Rule) : Prop :=
  ∃ A k, w.cell? ⟨b, o, none⟩ = some (.string x.p) ∧ w.cell? ⟨b, o + 1, none⟩ = some (.slice A x.c.length k) ∧ w.cell? ⟨b, o + 2, none⟩ = some (.int .u8 x.l) ∧ w.cell? ⟨b, o + 3, none⟩ = some (.int .u8 x.r) ∧ w.cell? ⟨b, o + 4, none⟩ = some (.int .i64 x.f) ∧ w.cell? ⟨b, o + 5, none⟩ = some (.int .i64 x.t) ∧ Seq w B A x.c ∧ x.wide
def Raws (w : World) (B : Nat) (A : Option Addr) (rs : List Rule) : Prop :=
  0 < rs.length → ∃ b o : Nat, A = some ⟨b, o, none⟩ ∧ b < B ∧ ∀ j (h : j < rs.length), RawAt w B b (o + j * 6) rs[j]
theorem RawAt.keep {w w' : World} {B b o : Nat} {x : Rule} (h : RawAt w B b o x) (hB : b < B) (hb : Below B w w') : RawAt w' B b o x := by
  obtain ⟨A, k, h0, h1, h2, h3, h4, h5, hs, hf⟩ := h
  have key : ∀ i, w'.cell? ⟨b, i, none⟩ = w.cell? ⟨b, i, none⟩ := fun i => hb.cell (p := ⟨b, i, none⟩) hB
  exact ⟨A, k, (key _).trans h0, (key _).trans h1, (key _).trans h2, (key _).trans h3, (key _).trans h4, (key _).trans h5, hs.keep hb, hf⟩
theorem RawAt.more {w : World} {B B' b o : Nat} {x : Rule} (h : RawAt w B b o x) (hB : B ≤ B') : RawAt w B' b o x := by
  obtain ⟨A, k, h0, h1, h2, h3, h4, h5, hs, hf⟩ := h
  exact ⟨A, k, h0, h1, h2, h3, h4, h5, hs.more hB, hf⟩
theorem Raws.up {w w' : World} {A : Option Addr} {rs : List Rule} (h : Raws w w.heap.size A rs) (hb : Below w.heap.size w w') : Raws w' w'.heap.size A rs := fun hl => by
  obtain ⟨b, o, e, hB, hc⟩ := h hl
  exact ⟨b, o, e, by have := hb.size; omega, fun j hj => ((hc j hj).keep hB hb).more hb.size⟩
theorem Raws.rules {w : World} {B : Nat} {A : Option Addr} {rs : List Rule} (h : Raws w B A rs) (hs : ∀ (i : Nat) (x : Rule), i < rs.length → rs[i]? = some x → x.p.size ≤ 6 ∧ x.c.length ≤ 6) : Rules w B A rs := fun hl => by
  obtain ⟨b, o, e, hB, hc⟩ := h hl
  refine ⟨b, o, e, hB, fun j hj => ?_⟩
  obtain ⟨A, k, h0, h1, h2, h3, h4, h5, hq, hf⟩ := hc j hj
  have := hs j _ hj (List.getElem?_eq_getElem hj)
  exact ⟨A, k, h0, h1, h2, h3, h4, h5, hq, by omega, by omega, hf⟩

theorem addr_plain {w : World} {a : Addr} {v : Value} (h : w.cell? a = some v) : ∃ b o, a = ⟨b, o, none⟩ := by
  obtain ⟨b, o, s⟩ := a
  cases s with
  | none => exact ⟨b, o, rfl⟩
  | some q => simp [World.cell?] at h; split at h <;> simp at h
theorem plain_add (b o i : Nat) : (⟨b, o, none⟩ : Addr).add i = ⟨b, o + i, none⟩ := by
  unfold Addr.add; split <;> simp_all

section
variable {H : Type} {enc : TypeId × Value → H} {W : World} {base : Nat} {spare : Nat → Bool} {held : Bool}
set_option maxRecDepth 10000 in
theorem trod_cells {fuel : Nat} {v : Value} {y : DataW H × List MemPlace} (h : DataW.trod enc Try.prog W base spare held fuel 39 [v] = some y) :
    ∃ (A : Option Addr) (k : Nat) (cs : List Int), v = .slice A cs.length k ∧ Seq W W.heap.size A cs ∧ ∀ z ∈ cs, 0 ≤ z ∧ z < 256 := by
  rcases open_ints Try.underlying39 Try.underlying64 (by kernel_rfl) h with ⟨hcs, _⟩ | ⟨x, l, c, zs, hcs, _, hl, hm, hz, _, hcell, hwz⟩
  · obtain rfl : v = .slice none 0 0 := by simpa using hcs
    exact ⟨none, 0, [], rfl, Seq.nil, by simp⟩
  · obtain rfl : v = .slice (some x) l c := by simpa using hcs
    have hlz : l ≤ zs.length := by rw [hz]; split <;> omega
    refine ⟨some x, c, zs.take l, by simp [Nat.min_eq_left hlz], fun hl0 => ?_, fun z hz' => ?_⟩
    · have h0 := hcell 0 (by simp at hl0; omega)
      obtain ⟨b, o, ha⟩ := addr_plain h0
      obtain ⟨b', o', rfl⟩ : ∃ b' o', x = ⟨b', o', none⟩ := by
        obtain ⟨b', o', s⟩ := x
        simp [Addr.add] at ha
        exact ⟨b', o', by rw [ha.2.2]⟩
      refine ⟨b', o', rfl, block_lt_of_cell (a := (⟨b', o', none⟩ : Addr)) (by simpa [Addr.add] using h0), fun i hi => ?_⟩
      simp only [List.length_take] at hi
      have hc := hcell i (by omega)
      rw [plain_add] at hc
      rw [hc, List.getElem_take, List.getD_eq_getElem?_getD, List.getElem?_eq_getElem (by omega), Option.getD_some]
    · have := bounds_u8 (hwz z (List.mem_of_mem_take hz'))
      omega

theorem one_cell {cs : List Value} {j : Nat} {v : Value} (h : cs[j]? = some v) : (cs.drop j).take 1 = [v] := by
  obtain ⟨hl, he⟩ := List.getElem?_eq_some_iff.1 h
  rw [List.drop_eq_getElem_cons hl, he]
  rfl

set_option maxRecDepth 10000 in
theorem raw_of {fuel b o : Nat} {cs : List Value} {y : DataW H × List MemPlace} (hcell : ∀ i, i < 6 → W.cell? ⟨b, o + i, none⟩ = cs[i]?) (h : DataW.trod enc Try.prog W base spare held fuel 55 cs = some y) :
    ∃ x, RawAt W W.heap.size b o x := by
  obtain ⟨xs, n, _, _, hlen, hxl, hf⟩ := DataW.trod_struct Try.underlying55 h
  have hlen : cs.length = 6 := hlen.trans (by kernel_rfl)
  match cs, hlen with
  | [c0, c1, c2, c3, c4, c5], _ =>
    match xs, hxl with
    | [y0, y1, y2, y3, y4, y5], _ =>
      obtain ⟨p, e0, _, _⟩ := DataW.trod_string (cs := [c0]) Try.underlying9 (hf 0 _ rfl)
      obtain ⟨A, k, cc, e1, hseq, hcz⟩ := trod_cells (v := c1) (hf 1 _ rfl)
      obtain ⟨l, e2, _, wl⟩ := DataW.trod_int (cs := [c2]) Try.underlying5 (hf 2 _ rfl)
      obtain ⟨r, e3, _, wr⟩ := DataW.trod_int (cs := [c3]) Try.underlying5 (hf 3 _ rfl)
      obtain ⟨f, e4, _, wf⟩ := DataW.trod_int (cs := [c4]) Try.underlying3 (hf 4 _ rfl)
      obtain ⟨t, e5, _, wt⟩ := DataW.trod_int (cs := [c5]) Try.underlying3 (hf 5 _ rfl)
      obtain rfl : c0 = .string p := by simpa using e0
      subst e1
      obtain rfl : c2 = .int .u8 l := by simpa using e2
      obtain rfl : c3 = .int .u8 r := by simpa using e3
      obtain rfl : c4 = .int .i64 f := by simpa using e4
      obtain rfl : c5 = .int .i64 t := by simpa using e5
      have b2 := bounds_u8 wl
      have b3 := bounds_u8 wr
      have b4 := bounds_i64 wf
      have b5 := bounds_i64 wt
      exact ⟨⟨p, cc, l, r, f, t⟩, A, k, hcell 0 (by omega), hcell 1 (by omega), hcell 2 (by omega), hcell 3 (by omega), hcell 4 (by omega), hcell 5 (by omega), hseq, hcz, ⟨b2.1, Int.lt_of_le_of_lt b2.2 (by decide)⟩, ⟨b3.1, Int.lt_of_le_of_lt b3.2 (by decide)⟩, b4, b5⟩

set_option maxRecDepth 10000 in
theorem trod_rules {fuel : Nat} {v : Value} {y : DataW H × List MemPlace} (h : DataW.trod enc Try.prog W base spare held fuel 29 [v] = some y) :
    ∃ (A : Option Addr) (k : Nat) (rs : List Rule), v = .slice A rs.length k ∧ Raws W W.heap.size A rs ∧ rs.length ≤ k ∧ rs.length ≤ maxLen := by
  rcases open_slice Try.underlying29 h with ⟨hcs, _⟩ | ⟨x, len, cap, m, n, D, Pl, hcs, _, hl, hm, hmm, _, hi⟩
  · obtain rfl : v = .slice none 0 0 := by simpa using hcs
    exact ⟨none, 0, [], rfl, fun h => absurd h (by simp), by simp, by simp⟩
  · obtain rfl : v = .slice (some x) len cap := by simpa using hcs
    have hlm : len ≤ m := by rw [hmm]; split <;> omega
    by_cases h0 : 0 < len
    · obtain ⟨cs0, hc0, ht0⟩ := hi 0 (by omega)
      obtain ⟨_, hl0, hat0⟩ := World.cells?_some hc0
      have hce : Try.prog.cellsOf 55 = 6 := by kernel_rfl
      rw [hce] at hl0 hat0
      have h00 := hat0 0 (by omega)
      rw [List.getElem?_eq_getElem (by omega)] at h00
      obtain ⟨b, o, ha⟩ := addr_plain h00
      obtain ⟨b', o', rfl⟩ : ∃ b' o', x = ⟨b', o', none⟩ := by
        obtain ⟨b', o', s⟩ := x
        simp [Addr.add] at ha
        exact ⟨b', o', by rw [ha.2.2]⟩
      have key : ∀ i, i < len → ∃ x, RawAt W W.heap.size b' (o' + i * 6) x := by
        intro i hil
        obtain ⟨cs', hc, ht⟩ := hi i (by omega)
        obtain ⟨_, _, hat⟩ := World.cells?_some hc
        rw [hce] at hat
        refine raw_of (cs := cs') (fun j hj => ?_) ht
        have := hat j hj
        rwa [plain_add, plain_add] at this
      obtain ⟨f, hf⟩ := choose_lt key
      refine ⟨_, cap, (List.range len).map f, by simp, fun _ => ⟨b', o', rfl, block_lt_of_cell (a := (⟨b', o', none⟩ : Addr)) (by simpa [Addr.add] using h00), fun j hj => ?_⟩, by simpa using hl, by simp; omega⟩
      have hj' : j < len := by simpa using hj
      simpa using hf j hj'
    · obtain rfl : len = 0 := by omega
      exact ⟨_, cap, [], rfl, fun h => absurd h (by simp), by simp, by simp⟩

set_option maxRecDepth 10000 in
theorem open_table {r : Reach} {b0 : Nat} {v : Value} {d : DataW H} {p : List MemPlace} (hv : Value.okWide Try.prog W r b0 31 v) (h : DataW.Trod enc Try.prog W base spare held 31 v d p) :
    ∃ (m a : Int) (A : Option Addr) (k : Nat) (rs : List Rule), v = .agg #[.int .i64 m, .int .u8 a, .slice A rs.length k] ∧ Raws W W.heap.size A rs ∧ rs.length ≤ k ∧ rs.length ≤ maxLen ∧ (0 ≤ a ∧ a < 256) := by
  obtain ⟨cs, rfl, hsz⟩ := okWide_struct Try.underlying31 hv
  obtain ⟨l⟩ := cs
  match l, hsz.trans (by kernel_rfl : _ = 3) with
  | [c0, c1, c2], _ =>
    obtain ⟨fuel, hf⟩ := h
    obtain ⟨xs, n, _, _, _, hxl, hf⟩ := DataW.trod_struct Try.underlying31 hf
    match xs, hxl with
    | [y0, y1, y2], _ =>
      obtain ⟨m, e0, _, _⟩ := DataW.trod_int (cs := [c0]) Try.underlying3 (hf 0 _ rfl)
      obtain ⟨a, e1, _, wa⟩ := DataW.trod_int (cs := [c1]) Try.underlying5 (hf 1 _ rfl)
      obtain ⟨A, k, rs, e2, hr, hk, hmx⟩ := trod_rules (v := c2) (hf 2 _ rfl)
      obtain rfl : c0 = .int .i64 m := by simpa using e0
      obtain rfl : c1 = .int .u8 a := by simpa using e1
      subst e2
      have b1 := bounds_u8 wa
      exact ⟨m, a, A, k, rs, rfl, hr, hk, hmx, by omega⟩
end
end Go.Proofs.Ytiedaongfjcbhaa
