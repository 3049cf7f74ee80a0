/- Plain facts on bytes and dots, and the contracts of package cell's small functions. -/
import Derived.Test.YtmbaebbhecfpdaaRows
import Derived.WalkKit
import Derived.WalkSpells
import Derived.WalkLawsBesides
import Derived.BigQuiet
import Derived.Deep.QuietTactic
import Derived.Lib.Hide
namespace Go.Proofs.Ytmbaebbhecfpdaa
open Go.RowKit

theorem ret_int {k : IntKind} {a b : Int} (h : a = b) : Ending.returned (.int k a) = .returned (.int k b) := by rw [h]
theorem ret_bool {a b : Bool} (h : a = b) : Ending.returned (.bool a) = .returned (.bool b) := by rw [h]

/-- What holds of all numbers below n, asked one by one. -/
def allB (n : Nat) (p : Nat → Bool) : Bool := (List.range n).all p
theorem allB_out {n : Nat} {p : Nat → Bool} (h : allB n p = true) (x : Nat) (hx : x < n) : p x = true := by
  unfold allB at h; rw [List.all_eq_true] at h; exact h x (List.mem_range.2 hx)
theorem allB_int {n : Nat} {p : Nat → Bool} (h : allB n p = true) (x : Int) (h0 : 0 ≤ x) (hx : x < n) : p x.toNat = true :=
  allB_out h _ (by omega)
theorem allB2_out {n m : Nat} {p : Nat → Nat → Bool} (h : allB n (fun x => allB m (p x)) = true) (x y : Nat) (hx : x < n) (hy : y < m) : p x y = true :=
  allB_out (allB_out h x hx) y hy

/-- The number of dots of a byte. -/
def pop : Nat → Nat → Nat
  | 0, _ => 0
  | f + 1, c => c % 2 + pop f (c / 2)
def dots (c : Nat) : Nat := pop 8 c
def cnt (v : Int) : Int := (dots v.toNat : Nat)

theorem pop_le (f c : Nat) : pop f c ≤ f := by
  induction f generalizing c with
  | zero => simp [pop]
  | succ f ih => have := ih (c / 2); unfold pop; omega
theorem cnt_bd (v : Int) : 0 ≤ cnt v ∧ cnt v ≤ 8 := by
  have := pop_le 8 v.toNat; unfold cnt dots; omega
theorem cnt_zero : cnt 0 = 0 := by simp [cnt, dots, pop]

theorem count_step (x : Int) (h0 : 0 < x) (hx : x < 256) :
    0 ≤ bits BinOp.and IntKind.u8 x (x - 1) ∧ bits BinOp.and IntKind.u8 x (x - 1) < x ∧ cnt (bits BinOp.and IntKind.u8 x (x - 1)) + 1 = cnt x := by
  have h := allB_int (n := 256) (p := fun x => x == 0 || (decide (0 ≤ bits BinOp.and IntKind.u8 (x : Int) ((x : Int) - 1)) && decide (bits BinOp.and IntKind.u8 (x : Int) ((x : Int) - 1) < x) && decide (cnt (bits BinOp.and IntKind.u8 (x : Int) ((x : Int) - 1)) + 1 = cnt x))) (by decide +kernel) x (by omega) hx
  rw [show ((x.toNat : Nat) : Int) = x from by omega] at h
  simp only [Bool.or_eq_true, beq_iff_eq, Bool.and_eq_true, decide_eq_true_eq] at h
  rcases h with h | ⟨⟨h1, h2⟩, h3⟩
  · omega
  · exact ⟨h1, h2, h3⟩

set_option maxHeartbeats 400000 in
theorem count_any (c : Int) (h0 : 0 ≤ c) (hc : c < 256) (w : World) :
    Calls Try.prog 37 #[.int .u8 c] w fun e w' => e = .returned (.int .i64 (cnt c)) ∧ w = w' := by
  have hd := cnt_bd c
  go_enter Try.func37, Try.ntmps37
  go_wp2
  go_loop [0, 3] (fun a n => ∃ x : Int, 0 ≤ x ∧ x < 256 ∧ a = .int .u8 x ∧ n = .int .i64 (cnt c - cnt x)) (fun a _ => (intOf a).toNat)
  case atStart => exact ⟨c, h0, hc, rfl, by simp⟩
  case round =>
    obtain ⟨x, hx0, hx, rfl, rfl⟩ := hrel
    by_cases hz : x = 0
    · subst hz
      go_wp2
      go_ret
      exact ⟨ret_int (by simp [cnt_zero]), rfl⟩
    · obtain ⟨h1, h2, e3⟩ := count_step x (by omega) hx
      have E3 := Lib.hid e3
      clear e3
      have hx8 := cnt_bd x
      go_wp2
      refine ⟨⟨_, h1, by omega, rfl, ?_⟩, ?_⟩
      · have := E3.out; have hb := cnt_bd (bits BinOp.and IntKind.u8 x (x - 1)); rw [show cnt c - cnt x + 1 = cnt c - cnt (bits BinOp.and IntKind.u8 x (x - 1)) from by omega]
      · simp [intOf]; omega

theorem valid_any (c : Int) (w : World) :
    Calls Try.prog 17 #[.int .u8 c] w fun e w' => e = .returned (.bool (decide (c ≤ 63))) ∧ w = w' := by
  go_enter Try.func17, Try.ntmps17
  go_wp2
  go_ret
  exact ⟨rfl, rfl⟩

theorem nat_lor_lt {a b : Nat} (ha : a < 256) (hb : b < 256) : a ||| b < 256 := Nat.or_lt_two_pow (n := 8) ha hb
theorem nat_xor_lt {a b : Nat} (ha : a < 256) (hb : b < 256) : a ^^^ b < 256 := Nat.xor_lt_two_pow (n := 8) ha hb
theorem xor_bd (a b : Int) (h1 : 0 ≤ a) (h2 : a < 256) (h3 : 0 ≤ b) (h4 : b < 256) : 0 ≤ bits .xor .u8 a b ∧ bits .xor .u8 a b < 256 := by
  rw [u8_xor a b h1 h2 h3 h4]; have := nat_xor_lt (a := a.toNat) (b := b.toNat) (by omega) (by omega); omega
theorem andNot_bd (a b : Int) (h1 : 0 ≤ a) (h2 : a < 256) (h3 : 0 ≤ b) (h4 : b < 256) : 0 ≤ bits .andNot .u8 a b ∧ bits .andNot .u8 a b < 256 := by
  rw [u8_andNot a b h1 h2 h3 h4]; have := Nat.and_le_left (n := a.toNat) (m := 255 - b.toNat); omega
theorem or_bd (a b : Int) (h1 : 0 ≤ a) (h2 : a < 256) (h3 : 0 ≤ b) (h4 : b < 256) : 0 ≤ bits .or .u8 a b ∧ bits .or .u8 a b < 256 := by
  rw [u8_or a b h1 h2 h3 h4]; have := nat_lor_lt (a := a.toNat) (b := b.toNat) (by omega) (by omega); omega

def distI (a b : Int) : Int := cnt (bits .xor .u8 a b)
theorem distance_any (a b : Int) (h1 : 0 ≤ a) (h2 : a < 256) (h3 : 0 ≤ b) (h4 : b < 256) (w : World) :
    Calls Try.prog 23 #[.int .u8 a, .int .u8 b] w fun e w' => e = .returned (.int .i64 (distI a b)) ∧ w = w' := by
  obtain ⟨hx1, hx2⟩ := xor_bd a b h1 h2 h3 h4
  go_enter Try.func23, Try.ntmps23
  go_wp2_with (go_at_call 37; refine (count_any _ hx1 hx2 _).mono ?_; rintro e w' ⟨rfl, rfl⟩)
  go_ret
  exact ⟨rfl, rfl⟩

def mirI (c : Int) : Int := bits .or .u8 (c / 8 % 8) (c % 8 * 8)
theorem mirror_any (c : Int) (h0 : 0 ≤ c) (hc : c < 64) (w : World) :
    Calls Try.prog 25 #[.int .u8 c] w fun e w' => e = .returned (.int .u8 (mirI c)) ∧ w = w' := by
  go_enter Try.func25, Try.ntmps25
  go_wp2
  go_ret
  exact ⟨rfl, rfl⟩
def fitsI (u m c : Int) : Bool := (bits .and .u8 c (bits .andNot .u8 u m) == bits .andNot .u8 u m) && (bits .andNot .u8 c (bits .or .u8 u m) == 0)
theorem fits_yes {u m c : Int} (h : bits .and .u8 c (bits .andNot .u8 u m) = bits .andNot .u8 u m) : (bits .andNot .u8 c (bits .or .u8 u m) == 0) = fitsI u m c := by
  simp [fitsI, h]
theorem fits_no {u m c : Int} (h : ¬ bits .and .u8 c (bits .andNot .u8 u m) = bits .andNot .u8 u m) : false = fitsI u m c := by
  simp [fitsI, h]
theorem fits_any (u m c : Int) (w : World) :
    Calls Try.prog 27 #[.agg #[.int .u8 u, .int .u8 m], .int .u8 c] w fun e w' => e = .returned (.bool (fitsI u m c)) ∧ Below w.heap.size w w' := by
  go_enter Try.func27, Try.ntmps27
  go_wp2
  · rename_i h
    go_ret
    exact ⟨ret_bool (fits_yes h), (Below.refl _ _).alloc (Nat.le_refl _) _⟩
  · rename_i h
    go_ret
    exact ⟨ret_bool (fits_no h), (Below.refl _ _).alloc (Nat.le_refl _) _⟩
def costI (u m c : Int) : Int := cnt (bits .andNot .u8 (bits .xor .u8 u c) m)
theorem cost_any (u m c : Int) (hu : 0 ≤ u ∧ u < 256) (hm : 0 ≤ m ∧ m < 256) (hc : 0 ≤ c ∧ c < 256) (w : World) :
    Calls Try.prog 29 #[.agg #[.int .u8 u, .int .u8 m], .int .u8 c] w fun e w' => e = .returned (.int .i64 (costI u m c)) ∧ Below w.heap.size w w' := by
  obtain ⟨hx1, hx2⟩ := xor_bd u c hu.1 hu.2 hc.1 hc.2
  obtain ⟨hy1, hy2⟩ := andNot_bd _ m hx1 hx2 hm.1 hm.2
  go_enter Try.func29, Try.ntmps29
  go_wp2_with (go_at_call 37; refine (count_any _ hy1 hy2 _).mono ?_; rintro e w' ⟨rfl, rfl⟩)
  go_ret
  exact ⟨rfl, (Below.refl _ _).alloc (Nat.le_refl _) _⟩
end Go.Proofs.Ytmbaebbhecfpdaa
