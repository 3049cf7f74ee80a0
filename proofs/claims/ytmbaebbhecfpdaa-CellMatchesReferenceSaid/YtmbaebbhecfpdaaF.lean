/- The fixed examples. -/
import Derived.Test.YtmbaebbhecfpdaaE
namespace Go.Proofs.Ytmbaebbhecfpdaa
open Go.RowKit

theorem below_next {w a b : World} (h : Below w.heap.size w a) (k : Below a.heap.size a b) : Below w.heap.size w b := h.trans (k.mono h.size)
theorem parse_lit (s : ByteArray) (c e : Int) (hc : paC (bytes s) = c) (he : paE (bytes s) = e) (hs : s.size < 2 ^ 47) (w : World) :
    Calls Try.prog 11 #[.string s] w fun x w' => x = .returned (.tuple #[.int .u8 c, .int .i64 e]) ∧ Below w.heap.size w w' := by
  rw [← hc, ← he]; exact parse_any s w hs
theorem fromAscii_lit (b c e : Int) (h0 : 0 ≤ b) (h1 : b < 256) (hc : faC b.toNat = c) (he : faE b.toNat = e) (w : World) :
    Calls Try.prog 9 #[.int .u8 b] w fun x w' => x = .returned (.tuple #[.int .u8 c, .int .i64 e]) ∧ Below w.heap.size w w' := by
  rw [← hc, ← he]; exact fromAscii_any b h0 h1 w
theorem line_lit (s : ByteArray) (n : Nat) (at' e : Int) (l : List Int) (hat : ((lineAt (bytes s) : Nat) : Int) = at') (he : lineE (bytes s) = e) (hl : lineCells (bytes s) = l) (hn : l.length = n) (hs : s.size < 2 ^ 47) (w : World) :
    Calls Try.prog 13 #[.string s] w fun x w' => (∃ A k, x = .returned (.tuple #[.slice A n k, .int .i64 at', .int .i64 e]) ∧ Seq w' w'.heap.size A l) ∧ Below w.heap.size w w' := by
  refine (line_any s w hs).mono ?_
  rintro x w' ⟨A, n', k, rfl, hn', hseq, _, hb⟩
  rw [hl] at hseq hn'
  obtain rfl : n' = n := by omega
  exact ⟨⟨A, k, by rw [hat, he], hseq⟩, hb⟩
theorem Seq.lit (w : World) (t : TypeId) (xs : List Int) : Seq (w.alloc (.cells (xs.map (Value.int .u8)).toArray t)) (w.heap.size + 1) (some ⟨w.heap.size, 0, none⟩) xs := fun hl => by
  refine ⟨w.heap.size, 0, rfl, by omega, fun j hj => ?_⟩
  rw [cell_of_row _ _ _ _ _ _ (Go.heap_alloc_new _ _)]
  simp [hj]
theorem same_lit (A B : Option Addr) (n m k l : Nat) (xs ys : List Int) (w : World) (hn : xs.length = n) (hm : ys.length = m) (hx : Seq w w.heap.size A xs) (hy : Seq w w.heap.size B ys) (hmax : n < 2 ^ 47) (r : Bool) (hr : decide (xs = ys) = r) :
    Calls Try.prog 15 #[.slice A n k, .slice B m l] w fun e w' => e = .returned (.bool r) ∧ Below w.heap.size w w' := by
  rw [← hr]; exact same_any A B n m k l xs ys w hn hm hx hy hmax
theorem mirror_lit (c d : Int) (h0 : 0 ≤ c) (hc : c < 64) (hd : mirI c = d) (w : World) :
    Calls Try.prog 25 #[.int .u8 c] w fun e w' => e = .returned (.int .u8 d) ∧ w = w' := by rw [← hd]; exact mirror_any c h0 hc w
theorem ascii_lit (c d : Int) (h0 : 0 ≤ c) (hc : c < 64) (hd : charI c = d) (w : World) :
    Calls Try.prog 21 #[.int .u8 c] w fun e w' => e = .returned (.int .u8 d) ∧ w = w' := by rw [← hd]; exact ascii_any c h0 hc w
theorem distance_lit (a b d : Int) (h1 : 0 ≤ a) (h2 : a < 256) (h3 : 0 ≤ b) (h4 : b < 256) (hd : distI a b = d) (w : World) :
    Calls Try.prog 23 #[.int .u8 a, .int .u8 b] w fun e w' => e = .returned (.int .i64 d) ∧ w = w' := by rw [← hd]; exact distance_any a b h1 h2 h3 h4 w
theorem valid_lit (c : Int) (r : Bool) (hr : decide (c ≤ 63) = r) (w : World) :
    Calls Try.prog 17 #[.int .u8 c] w fun e w' => e = .returned (.bool r) ∧ w = w' := by rw [← hr]; exact valid_any c w
theorem fits_lit (u m c : Int) (r : Bool) (hr : fitsI u m c = r) (w : World) :
    Calls Try.prog 27 #[.agg #[.int .u8 u, .int .u8 m], .int .u8 c] w fun e w' => e = .returned (.bool r) ∧ Below w.heap.size w w' := by rw [← hr]; exact fits_any u m c w
theorem cost_lit (u m c d : Int) (hu : 0 ≤ u ∧ u < 256) (hm : 0 ≤ m ∧ m < 256) (hc : 0 ≤ c ∧ c < 256) (hd : costI u m c = d) (w : World) :
    Calls Try.prog 29 #[.agg #[.int .u8 u, .int .u8 m], .int .u8 c] w fun e w' => e = .returned (.int .i64 d) ∧ Below w.heap.size w w' := by rw [← hd]; exact cost_any u m c hu hm hc w
theorem dots_lit (c : Nat) (t : ByteArray) (hc : c < 64) (ht : strOf (dotsText c) = t) (w : World) :
    Calls Try.prog 19 #[.int .u8 c] w fun x w' => x = .returned (.string t) ∧ Below w.heap.size w w' := by
  rw [← ht]; exact dots_any c hc w
theorem show_lit (A : Option Addr) (n k : Nat) (xs : List Int) (t : ByteArray) (w : World) (hn : xs.length = n) (ht : strOf (xs.map charI) = t) (hmax : n < 2 ^ 47) (hx : Seq w w.heap.size A xs) (hv : ∀ i, 0 ≤ xs.getD i 0 ∧ xs.getD i 0 < 64) :
    Calls Try.prog 32 #[.slice A n k] w fun e w' => e = .returned (.string t) ∧ Below w.heap.size w w' := by
  rw [← ht]; exact show_any A n k xs w hn hmax hx hv

set_option maxRecDepth 100000 in
set_option maxHeartbeats 1000000 in
theorem sanity_any (w : World) :
    Calls Try.prog 8 #[] w fun e w' => e = .returned (.bool true) ∧ Below w.heap.size w w' := by
  go_enter Try.func8, Try.ntmps8
  go_wp2_with fail
  refine (parse_lit _ 11 0 (by decide +kernel) (by decide +kernel) (by decide) _).mono ?_
  rintro e w1 ⟨rfl, hb1⟩
  go_wp2_with fail
  refine (parse_lit _ 0 10 (by decide +kernel) (by decide +kernel) (by decide) _).mono ?_
  rintro e w2 ⟨rfl, hb2⟩
  go_wp2_with fail
  refine (parse_lit _ 0 0 (by decide +kernel) (by decide +kernel) (by decide) _).mono ?_
  rintro e w3 ⟨rfl, hb3⟩
  go_wp2_with fail
  refine (parse_lit _ 0 10 (by decide +kernel) (by decide +kernel) (by decide) _).mono ?_
  rintro e w4 ⟨rfl, hb4⟩
  go_wp2_with fail
  refine (fromAscii_lit 102 0 10 (by decide) (by decide) (by decide +kernel) (by decide +kernel) _).mono ?_
  rintro e w5 ⟨rfl, hb5⟩
  go_wp2_with fail
  refine (fromAscii_lit 61 63 0 (by decide) (by decide) (by decide +kernel) (by decide +kernel) _).mono ?_
  rintro e w6 ⟨rfl, hb6⟩
  go_wp2_with fail
  refine (line_lit _ 4 4 0 [19, 10, 0, 46] (by decide +kernel) (by decide +kernel) (by decide +kernel) rfl (by decide) _).mono ?_
  rintro e w7 ⟨⟨A7, k7, rfl, hseq⟩, hb7⟩
  go_wp2_with fail
  refine (line_lit _ 0 1 10 [] (by decide +kernel) (by decide +kernel) (by decide +kernel) rfl (by decide) _).mono ?_
  rintro e w8 ⟨⟨A8, k8, rfl, hseq8⟩, hb8⟩
  have hs8 := hseq.keep hb8
  have hsz8 := hb8.size
  clear hseq hseq8
  go_wp2_with fail
  refine (same_lit A7 (some ⟨w8.heap.size, 0, none⟩) 4 4 k7 4 [19, 10, 0, 46] [19, 10, 0, 46] _ rfl rfl ((hs8.keep ((Below.refl w8.heap.size w8).alloc (Nat.le_refl _) _ |>.mono hsz8)).more (by simp; omega)) ((Seq.lit w8 24 [19, 10, 0, 46]).more (by simp)) (by decide) true (by decide)).mono ?_
  rintro e w9 ⟨rfl, hb9⟩
  clear hs8 hsz8
  have hz9 := hb9.size
  simp at hz9
  go_wp2_with fail
  refine (dots_lit 11 ⟨#[49, 50, 52]⟩ (by decide) (by decide +kernel) _).mono ?_
  rintro e w10 ⟨rfl, hb10⟩
  go_wp2_with fail
  refine (ascii_lit 11 70 (by decide) (by decide) (by decide +kernel) _).mono ?_
  rintro e _ ⟨rfl, rfl⟩
  go_wp2_with fail
  refine (ascii_lit 0 32 (by decide) (by decide) (by decide +kernel) _).mono ?_
  rintro e _ ⟨rfl, rfl⟩
  go_wp2_with fail
  refine (mirror_lit 11 25 (by decide) (by decide) (by decide +kernel) _).mono ?_
  rintro e _ ⟨rfl, rfl⟩
  go_wp2_with fail
  refine (distance_lit 11 25 2 (by decide) (by decide) (by decide) (by decide) (by decide +kernel) _).mono ?_
  rintro e _ ⟨rfl, rfl⟩
  go_wp2_with fail
  refine (valid_lit 63 true (by decide) _).mono ?_
  rintro e _ ⟨rfl, rfl⟩
  go_wp2_with fail
  refine (valid_lit 64 false (by decide) _).mono ?_
  rintro e _ ⟨rfl, rfl⟩
  go_wp2_with fail
  refine (fits_lit 1 2 3 true (by decide +kernel) _).mono ?_
  rintro e w11 ⟨rfl, hb11⟩
  go_wp2_with fail
  refine (fits_lit 1 2 2 false (by decide +kernel) _).mono ?_
  rintro e w12 ⟨rfl, hb12⟩
  go_wp2_with fail
  refine (cost_lit 1 2 6 2 (by decide) (by decide) (by decide) (by decide +kernel) _).mono ?_
  rintro e w13 ⟨rfl, hb13⟩
  go_wp2_with fail
  refine (show_lit (some ⟨w13.heap.size, 0, none⟩) 2 2 [60, 1] ⟨#[35, 65]⟩ _ rfl (by decide +kernel) (by decide) ((Seq.lit w13 24 [60, 1]).more (by simp)) (fun i => by
    match i with
    | 0 => exact ⟨by decide, by decide⟩
    | 1 => exact ⟨by decide, by decide⟩
    | i + 2 => exact ⟨by simp, by simp⟩)).mono ?_
  rintro e w14 ⟨rfl, hb14⟩
  go_wp2
  go_ret
  have h8 := below_next (below_next (below_next (below_next (below_next (below_next (below_next hb1 hb2) hb3) hb4) hb5) hb6) hb7) hb8
  have h13 := below_next (below_next (below_next (below_next (below_next (h8.alloc h8.size _) hb9) hb10) hb11) hb12) hb13
  exact ⟨rfl, below_next (h13.alloc h13.size _) hb14⟩
end Go.Proofs.Ytmbaebbhecfpdaa
