/- Merged by program: OpenR OpenL OpenW -/
import Derived.Test.YtpkdlljefkbmpaaQ13
import Derived.Test.YtpkdlljefkbmpaaQ14

/-! Opening an argument that describes a table, and one that describes a change of a rule. -/
namespace Go.Proofs.Ytpkdlljefkbmpaa
open Go.ChangeShapes Go.WideShapes Go.RowKit Go.Deep

section
variable {H : Type} {enc : TypeId × Value → H} {W : World} {base : Nat} {spare : Nat → Bool} {held : Bool}
set_option maxRecDepth 10000 in
theorem trod_bytes {fuel : Nat} {v : Value} {y : DataW H × List MemPlace} (h : DataW.trod enc Try.prog W base spare held fuel 25 [v] = some y) :
  ∃ (A : Option Addr) (k : Nat) (cs : List Int), v = .slice A cs.length k ∧ Seq W W.heap.size A cs ∧ ∀ z ∈ cs, 0 ≤ z ∧ z < 256 := by
 rcases open_ints Try.underlying25 Try.underlying5 (by kernel_rfl) h with ⟨hcs, _⟩ | ⟨x, l, c, zs, hcs, _, hl, hm, hz, _, hcell, hwz⟩
 ·
  obtain rfl : v = .slice none 0 0 := by simpa using hcs
  exact ⟨none, 0, [], rfl, Seq.nil, by simp⟩
 ·
  obtain rfl : v = .slice (some x) l c := by simpa using hcs
  have hlz : l ≤ zs.length := by rw [hz]; split <;> omega
  refine ⟨some x, c, zs.take l, by simp [Nat.min_eq_left hlz], fun hl0 => ?_, fun z hz' => ?_⟩
  ·
   have h0 := hcell 0 (by simp at hl0; omega)
   obtain ⟨b, o, ha⟩ := addr_plain h0
   obtain ⟨b', o', rfl⟩ : ∃ b' o', x = ⟨b', o', none⟩ := by
    obtain ⟨b', o', s⟩ := x
    simp [Addr.add] at ha
    exact ⟨b', o', by rw [ha.2.2]⟩
   refine ⟨b', o', rfl, block_lt_of_cell (a := (⟨b', o', none⟩ : Addr)) (by simpa [Addr.add] using h0), fun i hi => ?_⟩
   simp only [List.length_take] at hi
   have hc := hcell i (by omega)
   rw [plain_add] at hc
   rw [hc, List.getElem_take, List.getD_eq_getElem?_getD, List.getElem?_eq_getElem (by omega), Option.getD_some]
  ·
   have := bounds_u8 (hwz z (List.mem_of_mem_take hz'))
   omega
set_option maxRecDepth 10000 in
theorem rawR_of {fuel b o : Nat} {cs : List Value} {y : DataW H × List MemPlace} (hcell : ∀ i, i < 6 → W.cell? ⟨b, o + i, none⟩ = cs[i]?) (h : DataW.trod enc Try.prog W base spare held fuel 103 cs = some y) :
  RawR W W.heap.size b o := by
 obtain ⟨xs, n, _, _, hlen, hxl, hf⟩ := DataW.trod_struct Try.underlying103 h
 have hlen : cs.length = 6 := hlen.trans (by kernel_rfl)
 match cs, hlen with
 | [c0, c1, c2, c3, c4, c5], _ =>
  match xs, hxl with
  | [y0, y1, y2, y3, y4], _ =>
   obtain ⟨PA, kp, ps, e0, hP, hpz⟩ := trod_bytes (v := c0) (hf 0 _ rfl)
   obtain ⟨CA, kc, qs, e1, hC, hcz⟩ := trod_bytes (v := c1) (hf 1 _ rfl)
   obtain ⟨l, e2, _, wl⟩ := DataW.trod_int (cs := [c2]) Try.underlying5 (hf 2 _ rfl)
   obtain ⟨r, e3, _, wr⟩ := DataW.trod_int (cs := [c3]) Try.underlying5 (hf 3 _ rfl)
   have h4 := hf 4 _ rfl
   obtain ⟨zs, m, _, _, _, hzl, hz⟩ := DataW.trod_array (cs := [c4, c5]) Try.underlying101 h4
   match zs, hzl with
   | [v4, v5], _ =>
    obtain ⟨u0, e4, _, w4⟩ := DataW.trod_int (cs := [c4]) Try.underlying5 (hz 0 (by decide))
    obtain ⟨u1, e5, _, w5⟩ := DataW.trod_int (cs := [c5]) Try.underlying5 (hz 1 (by decide))
    subst e0 e1
    obtain rfl : c2 = .int .u8 l := by simpa using e2
    obtain rfl : c3 = .int .u8 r := by simpa using e3
    obtain rfl : c4 = .int .u8 u0 := by simpa using e4
    obtain rfl : c5 = .int .u8 u1 := by simpa using e5
    have b2 := bounds_u8 wl
    have b3 := bounds_u8 wr
    have b4 := bounds_u8 w4
    have b5 := bounds_u8 w5
    exact ⟨PA, ps.length, kp, CA, qs.length, kc, ps, qs, l, r, u0, u1, hcell 0 (by omega), hcell 1 (by omega), hcell 2 (by omega), hcell 3 (by omega), hcell 4 (by omega), hcell 5 (by omega), rfl, rfl, hP, hC, ⟨b2.1, by omega⟩, ⟨b3.1, by omega⟩, ⟨b4.1, by omega⟩, ⟨b5.1, by omega⟩, hpz, hcz⟩
set_option maxRecDepth 10000 in
theorem trod_raws {fuel : Nat} {v : Value} {y : DataW H × List MemPlace} (h : DataW.trod enc Try.prog W base spare held fuel 22 [v] = some y) :
  ∃ (A : Option Addr) (n k : Nat), v = .slice A n k ∧ RawMs W W.heap.size A n := by
 rcases open_slice Try.underlying22 h with ⟨hcs, _⟩ | ⟨x, len, cap, m, n, D, Pl, hcs, _, hl, hm, hmm, _, hi⟩
 ·
  obtain rfl : v = .slice none 0 0 := by simpa using hcs
  exact ⟨none, 0, 0, rfl, fun h => absurd h (by simp)⟩
 ·
  obtain rfl : v = .slice (some x) len cap := by simpa using hcs
  have hlm : len ≤ m := by rw [hmm]; split <;> omega
  refine ⟨some x, len, cap, rfl, fun h0 => ?_⟩
  obtain ⟨cs0, hc0, ht0⟩ := hi 0 (by omega)
  obtain ⟨_, hl0, hat0⟩ := World.cells?_some hc0
  have hce : Try.prog.cellsOf 103 = 6 := by kernel_rfl
  rw [hce] at hl0 hat0
  have h00 := hat0 0 (by omega)
  rw [List.getElem?_eq_getElem (by omega)] at h00
  obtain ⟨b, o, ha⟩ := addr_plain h00
  obtain ⟨b', o', rfl⟩ : ∃ b' o', x = ⟨b', o', none⟩ := by
   obtain ⟨b', o', s⟩ := x
   simp [Addr.add] at ha
   exact ⟨b', o', by rw [ha.2.2]⟩
  refine ⟨b', o', rfl, block_lt_of_cell (a := (⟨b', o', none⟩ : Addr)) (by simpa [Addr.add] using h00), fun j hj => ?_⟩
  obtain ⟨cs', hc, ht⟩ := hi j (by omega)
  obtain ⟨_, _, hat⟩ := World.cells?_some hc
  rw [hce] at hat
  refine rawR_of (cs := cs') (fun q hq => ?_) ht
  have := hat q hq
  rwa [plain_add, plain_add] at this
set_option maxRecDepth 10000 in
theorem open_raw {r : Reach} {b0 : Nat} {v : Value} {d : DataW H} {p : List MemPlace} (hv : Value.okWide Try.prog W r b0 24 v) (h : DataW.Trod enc Try.prog W base spare held 24 v d p) :
  ∃ (bs dr : Int) (A : Option Addr) (n k : Nat), v = .agg #[.int .u8 bs, .int .u8 dr, .slice A n k] ∧ RawMs W W.heap.size A n ∧ (0 ≤ bs ∧ bs < 256) ∧ (0 ≤ dr ∧ dr < 256) := by
 obtain ⟨cs, rfl, hsz⟩ := okWide_struct Try.underlying24 hv
 obtain ⟨l⟩ := cs
 match l, hsz.trans (by kernel_rfl : _ = 3) with
 | [c0, c1, c2], _ =>
  obtain ⟨fuel, hf⟩ := h
  obtain ⟨xs, n, _, _, _, hxl, hf⟩ := DataW.trod_struct Try.underlying24 hf
  match xs, hxl with
  | [y0, y1, y2], _ =>
   obtain ⟨bs, e0, _, w0⟩ := DataW.trod_int (cs := [c0]) Try.underlying5 (hf 0 _ rfl)
   obtain ⟨dr, e1, _, w1⟩ := DataW.trod_int (cs := [c1]) Try.underlying5 (hf 1 _ rfl)
   obtain ⟨A, n', k, e2, hr⟩ := trod_raws (v := c2) (hf 2 _ rfl)
   obtain rfl : c0 = .int .u8 bs := by simpa using e0
   obtain rfl : c1 = .int .u8 dr := by simpa using e1
   subst e2
   have b0 := bounds_u8 w0
   have b1 := bounds_u8 w1
   exact ⟨bs, dr, A, n', k, rfl, hr, by omega, by omega⟩
end
end Go.Proofs.Ytpkdlljefkbmpaa

/-! Opening arguments that are lists of numbers, a state, a raw rule. -/
namespace Go.Proofs.Ytpkdlljefkbmpaa
open Go.ChangeShapes Go.WideShapes Go.RowKit Go.Deep

section
variable {H : Type} {enc : TypeId × Value → H} {W : World} {base : Nat} {spare : Nat → Bool} {held : Bool}
set_option maxRecDepth 10000 in
theorem open_bytesL {r : Reach} {b0 : Nat} {v : Value} {d : DataW H} {p : List MemPlace} (hv : Value.okWide Try.prog W r b0 25 v) (h : DataW.Trod enc Try.prog W base spare held 25 v d p) :
  ∃ (A : Option Addr) (k : Nat) (xs : List Int), v = .slice A xs.length k ∧ Seq W W.heap.size A xs ∧ ∀ z ∈ xs, 0 ≤ z ∧ z < 256 := by
 obtain ⟨a, len, cap, rfl⟩ := okWide_slice Try.underlying25 hv
 obtain ⟨fuel, hf⟩ := h
 exact trod_bytes (v := .slice a len cap) hf
end
end Go.Proofs.Ytpkdlljefkbmpaa

/-! Opening an argument that describes one rule. -/
namespace Go.Proofs.Ytpkdlljefkbmpaa
open Go.ChangeShapes Go.WideShapes Go.RowKit Go.Deep
def RawV (w : World) (PA : Option Addr) (np : Nat) (CA : Option Addr) (nc : Nat) (ps cs : List Int) (l r u0 u1 : Int) : Prop :=
 (ps.length = np ∧ cs.length = nc) ∧ (Seq w w.heap.size PA ps ∧ Seq w w.heap.size CA cs) ∧ ((0 ≤ l ∧ l < 256) ∧ (0 ≤ r ∧ r < 256) ∧ (0 ≤ u0 ∧ u0 < 256) ∧ (0 ≤ u1 ∧ u1 < 256)) ∧ (∀ z ∈ ps, 0 ≤ z ∧ z < 256) ∧ (∀ z ∈ cs, 0 ≤ z ∧ z < 256)
theorem RawV.up {w w' : World} {PA : Option Addr} {np : Nat} {CA : Option Addr} {nc : Nat} {ps cs : List Int} {l r u0 u1 : Int} (h : RawV w PA np CA nc ps cs l r u0 u1) (hb : Below w.heap.size w w') : RawV w' PA np CA nc ps cs l r u0 u1 :=
 ⟨h.1, ⟨h.2.1.1.up hb, h.2.1.2.up hb⟩, h.2.2⟩
section
variable {H : Type} {enc : TypeId × Value → H} {W : World} {base : Nat} {spare : Nat → Bool} {held : Bool}
end
end Go.Proofs.Ytpkdlljefkbmpaa
