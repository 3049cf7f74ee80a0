/- Merged by program: Aut1 Aut2 Aut3 Aut4 -/
import Derived.Test.YtpkdlljefkbmpaaQ13
import Derived.Test.YtpkdlljefkbmpaaQ2
import Derived.Test.YtpkdlljefkbmpaaQ10

/-! Package automaton: masks, the first state, what accepts; the reference's. -/
namespace Go.Proofs.Ytpkdlljefkbmpaa
open Go.RowKit

def bitB (mask k : Int) : Bool := decide (0 ≤ k) && (decide (k < 8) && decide (mask / 2 ^ k.toNat % 2 = 1))
theorem and_one (v : Int) (h0 : 0 ≤ v) (h1 : v < 256) : bits .and .u8 v 1 = v % 2 := by
 have h := allB_int (n := 256) (p := fun b => decide (bits .and .u8 (b : Int) 1 = (b : Int) % 2)) (by decide +kernel) v h0 h1
 rw [show ((v.toNat : Nat) : Int) = v from by omega] at h
 exact of_decide_eq_true h
theorem div_bd (v : Int) (j : Nat) (h0 : 0 ≤ v) (h1 : v < 256) : 0 ≤ v / 2 ^ j ∧ v / 2 ^ j < 256 := by
 have hp : (0 : Int) < 2 ^ j := Int.pow_pos (by decide)
 refine ⟨Int.ediv_nonneg h0 (Int.le_of_lt hp), ?_⟩
 have := Int.ediv_le_self (b := 2 ^ j) h0 
 omega
theorem bit_at (mask : Int) (j : Nat) (h0 : 0 ≤ mask) (h1 : mask < 256) (hj : j < 8) : (bits .and .u8 (mask / 2 ^ j) 1 == 1) = bitB mask j := by
 have hd := div_bd mask j h0 h1
 rw [and_one _ hd.1 hd.2]
 unfold bitB
 rw [show decide (0 ≤ (j : Int)) = true by simp, show decide ((j : Int) < 8) = true by simp; omega]
 simp only [Int.toNat_natCast, Bool.true_and]
 rfl
theorem bit_big (mask : Int) (j : Nat) (h0 : 0 ≤ mask) (h1 : mask < 256) (hj : 8 ≤ j) : mask / 2 ^ j = 0 ∧ bitB mask j = false := by
 refine ⟨Int.ediv_eq_zero_of_lt h0 ?_, ?_⟩
 ·
  have h1' : (2 : Nat) ^ 8 ≤ 2 ^ j := Nat.pow_le_pow_right (by decide) hj
  have h2 : ((2 ^ j : Nat) : Int) = (2 : Int) ^ j := by simp
  have h3 : (2 : Nat) ^ 8 = 256 := by decide
  omega
 ·
  unfold bitB
  rw [show decide ((j : Int) < 8) = false by simp; omega]
  simp
theorem bit_neg (mask k : Int) (h : k < 0) : bitB mask k = false := by
 unfold bitB
 rw [show decide (0 ≤ k) = false by simp; omega]
 rfl
set_option maxRecDepth 10000 in
theorem hasBit_any (mask k : Int) (hm : 0 ≤ mask ∧ mask < 256) (w : World) :
  Calls Try.prog 138 #[.int .u8 mask, .int .i64 k] w fun e w' => e = .returned (.bool (bitB mask k)) ∧ w = w' := by
 by_cases hk : k < 0
 ·
  have hn : ¬ 0 ≤ k := by omega
  have hb := Lib.hid (bit_neg mask k hk)
  go_enter Try.func138, Try.ntmps138
  go_wp2
  go_ret
  exact ⟨ret_bool hb.out.symm, rfl⟩
 ·
  obtain ⟨j, rfl⟩ : ∃ j : Nat, k = (j : Int) := ⟨k.toNat, by omega⟩
  have hn : 0 ≤ (j : Int) := by omega
  by_cases hj : j < 8
  ·
   have hj8 : (j : Int) < 8 := by omega
   have hb := bit_at mask j hm.1 hm.2 hj
   obtain ⟨r, hr⟩ : ∃ r, bitB mask j = r := ⟨_, rfl⟩
   rw [hr] at hb ⊢
   clear hr
   go_enter Try.func138, Try.ntmps138
   go_wp2
   go_ret
   exact ⟨rfl, rfl⟩
  ·
   have hj8 : ¬ (j : Int) < 8 := by omega
   obtain ⟨_, hb⟩ := bit_big mask j hm.1 hm.2 (by omega)
   have h0 : (bits .and .u8 0 1 == 1) = false := by decide
   have hmn : min j 8 = 8 := by omega
   have hz8 : mask / 256 = 0 := by omega
   rw [hb]
   clear hb
   go_enter Try.func138, Try.ntmps138
   go_wp2
   go_ret
   exact ⟨rfl, rfl⟩
set_option maxRecDepth 10000 in
theorem rBit_any (mask k : Int) (hm : 0 ≤ mask ∧ mask < 256) (w : World) :
  Calls Try.prog 82 #[.int .u8 mask, .int .i64 k] w fun e w' => e = .returned (.bool (bitB mask k)) ∧ w = w' := by
 by_cases hk : k < 0
 ·
  have hn : ¬ 0 ≤ k := by omega
  have hb := Lib.hid (bit_neg mask k hk)
  go_enter Try.func82, Try.ntmps82
  go_wp2
  go_ret
  exact ⟨ret_bool hb.out.symm, rfl⟩
 ·
  obtain ⟨j, rfl⟩ : ∃ j : Nat, k = (j : Int) := ⟨k.toNat, by omega⟩
  have hn : 0 ≤ (j : Int) := by omega
  by_cases hj : j < 8
  ·
   have hj8 : (j : Int) < 8 := by omega
   have hb := bit_at mask j hm.1 hm.2 hj
   obtain ⟨r, hr⟩ : ∃ r, bitB mask j = r := ⟨_, rfl⟩
   rw [hr] at hb ⊢
   clear hr
   go_enter Try.func82, Try.ntmps82
   go_wp2
   go_ret
   exact ⟨rfl, rfl⟩
  ·
   have hj8 : ¬ (j : Int) < 8 := by omega
   obtain ⟨_, hb⟩ := bit_big mask j hm.1 hm.2 (by omega)
   have h0 : (bits .and .u8 0 1 == 1) = false := by decide
   have hmn : min j 8 = 8 := by omega
   have hz8 : mask / 256 = 0 := by omega
   rw [hb]
   clear hb
   go_enter Try.func82, Try.ntmps82
   go_wp2
   go_ret
   exact ⟨rfl, rfl⟩
structure St where
 mode : Int
 last : Int
 need : Int
 deriving DecidableEq
def St.val (s : St) : Value := .agg #[.int .i64 s.mode, .int .i64 s.last, .int .u8 s.need]
def St.fits (s : St) : Prop := (-9223372036854775808 ≤ s.mode ∧ s.mode ≤ 9223372036854775807) ∧ (-9223372036854775808 ≤ s.last ∧ s.last ≤ 9223372036854775807) ∧ (0 ≤ s.need ∧ s.need < 256)
def St.start : St := ⟨0, 0, 63⟩
def accB (a : Int) (s : St) : Bool := bitB a s.mode && bitB s.need 0
theorem start_any (w : World) : Calls Try.prog 93 #[] w fun e w' => e = .returned St.start.val ∧ Below w.heap.size w w' := by
 go_enter Try.func93, Try.ntmps93
 go_wp2
 refine bodyPost_ret (v := St.start.val) (by simp [results, Try.results93, go_sem]; rfl) rfl ⟨rfl, ?_⟩
 exact (Below.refl _ _).alloc (Nat.le_refl _) _
theorem rStart_any (w : World) : Calls Try.prog 59 #[] w fun e w' => e = .returned St.start.val ∧ Below w.heap.size w w' := by
 go_enter Try.func59, Try.ntmps59
 go_wp2
 refine bodyPost_ret (v := St.start.val) (by simp [results, Try.results59, go_sem]; rfl) rfl ⟨rfl, ?_⟩
 exact (Below.refl _ _).alloc (Nat.le_refl _) _
set_option maxRecDepth 10000 in
theorem accepts_any (m a : Int) (A : Option Addr) (n k : Nat) (s : St) (ha : 0 ≤ a ∧ a < 256) (hs : s.fits) (w : World) :
  Calls Try.prog 151 #[.agg #[.int .i64 m, .int .u8 a, .slice A n k], s.val] w fun e w' => e = .returned (.bool (accB a s)) ∧ Below w.heap.size w w' := by
 obtain ⟨mo, la, ne⟩ := s
 have hne := hs.2.2
 unfold St.val accB
 dsimp only at hne ⊢
 have hB : Below w.heap.size w ((w.alloc (.cells #[.int .i64 m, .int .u8 a, .slice A n k] 30)).alloc (.cells #[.int .i64 mo, .int .i64 la, .int .u8 ne] 47)) := ((Below.refl _ _).alloc (Nat.le_refl _) _).alloc (by simp) _
 have HB := Lib.hid hB
 clear hB
 obtain ⟨r1, h1⟩ : ∃ r, bitB a mo = r := ⟨_, rfl⟩
 obtain ⟨r2, h2⟩ : ∃ r, bitB ne 0 = r := ⟨_, rfl⟩
 rw [h1, h2]
 have H1 := Lib.hid h1
 have H2 := Lib.hid h2
 clear h1 h2
 go_enter Try.func151, Try.ntmps151
 go_wp2_with fail
 refine (hasBit_any a mo ha _).mono ?_
 rintro e w1 ⟨rfl, rfl⟩
 rw [H1.out]
 cases r1
 ·
  go_wp2
  go_ret
  exact ⟨rfl, HB.out⟩
 ·
  go_wp2_with fail
  refine (hasBit_any ne 0 hne _).mono ?_
  rintro e w1 ⟨rfl, rfl⟩
  rw [H2.out]
  cases r2
  ·
   go_wp2
   go_ret
   exact ⟨rfl, HB.out⟩
  ·
   go_wp2
   go_ret
   exact ⟨rfl, HB.out⟩
end Go.Proofs.Ytpkdlljefkbmpaa

/-! Package automaton: a rule's step; the reference's Accepts. -/
namespace Go.Proofs.Ytpkdlljefkbmpaa
open Go.RowKit

theorem empty_iff (p : ByteArray) : p.toList.isEmpty = true ↔ p.size = 0 := by
 rw [ByteArray.toList_eq, List.isEmpty_iff, ← List.length_eq_zero_iff, Array.length_toList]
 rfl
theorem empty_no {p : ByteArray} (h : ¬ p.size = 0) : p.toList.isEmpty = false := by
 cases hb : p.toList.isEmpty with
 | false => rfl
 | true => exact absurd ((empty_iff p).1 hb) h
def byteI (p : ByteArray) (i : Nat) : Int := ((bytes p).getD i 0 : Nat)
def mayB (x : Rule) (need : Int) : Bool := if x.p.size = 0 then bits .and .u8 need x.r != 0 else bitB need (clsI (byteI x.p 0))
def afterS (x : Rule) (s : St) : St := if x.p.size = 0 then ⟨x.t, s.last, bits .and .u8 s.need x.r⟩ else ⟨x.t, clsI (byteI x.p (x.p.size - 1)), x.r⟩
def stepR (x : Rule) (s : St) : Option St := if x.f ≠ s.mode ∨ bitB x.l s.last = false ∨ mayB x s.need = false then none else some (afterS x s)
set_option maxRecDepth 10000 in
theorem mayFollow_any (A : Option Addr) (k : Nat) (x : Rule) (need : Int) (hx : x.fits) (hn : 0 ≤ need ∧ need < 256) (w : World) :
  Calls Try.prog 139 #[.agg #[.string x.p, .slice A x.c.length k, .int .u8 x.l, .int .u8 x.r, .int .i64 x.f, .int .i64 x.t], .int .u8 need] w fun e w' => e = .returned (.bool (mayB x need)) ∧ Below w.heap.size w w' := by
 have HB : Hid (Below w.heap.size w (w.alloc (.cells #[.string x.p, .slice A x.c.length k, .int .u8 x.l, .int .u8 x.r, .int .i64 x.f, .int .i64 x.t] 99))) := below_box _ _ _
 have hp := hx.1
 by_cases h0 : x.p.size = 0
 ·
  have hm : mayB x need = (bits .and .u8 need x.r != 0) := by unfold mayB; rw [if_pos h0]
  have hq : x.p.toList.isEmpty = true := (empty_iff x.p).2 h0
  obtain ⟨r, hr⟩ : ∃ r, (bits .and .u8 need x.r != 0) = r := ⟨_, rfl⟩
  rw [hm, hr]
  clear hm
  go_enter Try.func139, Try.ntmps139
  go_wp2
  go_ret
  exact ⟨rfl, HB.out⟩
 ·
  have hm : mayB x need = bitB need (clsI (byteI x.p 0)) := by unfold mayB; rw [if_neg h0]
  have hq : x.p.toList.isEmpty = false := empty_no h0
  have hlt : 0 < x.p.size := by omega
  have hby : ((x.p[0]'hlt).toNat : Int) = byteI x.p 0 := by
   unfold byteI
   rw [List.getD_eq_getElem?_getD, bytes_at x.p 0 hlt]; rfl
  have hb0 : 0 ≤ byteI x.p 0 ∧ byteI x.p 0 < 256 := by
   rw [← hby]; have := (x.p[0]'hlt).toNat_lt; omega
  obtain ⟨r, hr⟩ : ∃ r, bitB need (clsI (byteI x.p 0)) = r := ⟨_, rfl⟩
  have HR := Lib.hid hr
  rw [hm, hr]
  clear hm hr
  go_enter Try.func139, Try.ntmps139
  go_wp2_with fail
  refine (class_any _ hb0.1 hb0.2 _).mono ?_
  rintro e w1 ⟨rfl, rfl⟩
  go_wp2_with fail
  refine (hasBit_any need _ hn _).mono ?_
  rintro e w1 ⟨rfl, rfl⟩
  rw [HR.out]
  go_wp2
  go_ret
  exact ⟨rfl, HB.out⟩
def phiAf (q : Nat) (x : Rule) (n1 : Nat) (j : Nat) (v : Value) (_w : World) : Prop := match j with
 | 0 => v = .pointer (some ⟨q, 5, none⟩)
 | 1 => v = .int .i64 x.t
 | 2 => v = .pointer (some ⟨q, 0, none⟩)
 | 3 => v = .string x.p
 | 4 => v = .pointer (some ⟨q, 0, none⟩)
 | 5 => v = .string x.p
 | 6 => v = .int .i64 x.p.size
 | 7 => v = .int .i64 n1
 | 8 => v = .int .u8 (byteI x.p n1)
 | 9 => v = .int .i64 (clsI (byteI x.p n1))
 | 10 => v = .pointer (some ⟨q, 3, none⟩)
 | 11 => v = .int .u8 x.r
 | 12 => v = .agg #[.int .i64 x.t, .int .i64 (clsI (byteI x.p n1)), .int .u8 x.r]
 | _ => True
theorem st_end {w V : World} {q : Nat} (hB : Below w.heap.size w V) (h : w.heap.size ≤ q) (a b c : Int) : Below w.heap.size w (((V.setCell ⟨q, 0, none⟩ (.int .i64 a)).setCell ⟨q, 1, none⟩ (.int .i64 b)).setCell ⟨q, 2, none⟩ (.int .u8 c)) :=
 ((hB.setCell h _).setCell h _).setCell h _
theorem after_pre (w : World) (A : Option Addr) (k : Nat) (x : Rule) (mo la ne : Int) :
  Blk (((w.alloc (.cells #[.string x.p, .slice A x.c.length k, .int .u8 x.l, .int .u8 x.r, .int .i64 x.f, .int .i64 x.t] 99)).alloc (.cells #[.int .i64 mo, .int .i64 la, .int .u8 ne] 47)).alloc (.cells #[.int .i64 0, .int .i64 0, .int .u8 0] 47)) w.heap.size 99 #[.string x.p, .slice A x.c.length k, .int .u8 x.l, .int .u8 x.r, .int .i64 x.f, .int .i64 x.t] ∧
  Blk (((w.alloc (.cells #[.string x.p, .slice A x.c.length k, .int .u8 x.l, .int .u8 x.r, .int .i64 x.f, .int .i64 x.t] 99)).alloc (.cells #[.int .i64 mo, .int .i64 la, .int .u8 ne] 47)).alloc (.cells #[.int .i64 0, .int .i64 0, .int .u8 0] 47)) (w.heap.size + 1 + 1) 47 #[.int .i64 0, .int .i64 0, .int .u8 0] ∧
  Below w.heap.size w (((w.alloc (.cells #[.string x.p, .slice A x.c.length k, .int .u8 x.l, .int .u8 x.r, .int .i64 x.f, .int .i64 x.t] 99)).alloc (.cells #[.int .i64 mo, .int .i64 la, .int .u8 ne] 47)).alloc (.cells #[.int .i64 0, .int .i64 0, .int .u8 0] 47)) := by
 have b0 := below_box w #[.string x.p, .slice A x.c.length k, .int .u8 x.l, .int .u8 x.r, .int .i64 x.f, .int .i64 x.t] 99
 have n0 := Blk.new w #[.string x.p, .slice A x.c.length k, .int .u8 x.l, .int .u8 x.r, .int .i64 x.f, .int .i64 x.t] 99
 have s0 : (w.alloc (.cells #[.string x.p, .slice A x.c.length k, .int .u8 x.l, .int .u8 x.r, .int .i64 x.f, .int .i64 x.t] 99)).heap.size = w.heap.size + 1 := by simp
 generalize w.alloc (.cells #[.string x.p, .slice A x.c.length k, .int .u8 x.l, .int .u8 x.r, .int .i64 x.f, .int .i64 x.t] 99) = w1 at *
 have s1 : (w1.alloc (.cells #[.int .i64 mo, .int .i64 la, .int .u8 ne] 47)).heap.size = w1.heap.size + 1 := by simp
 have n2 := Blk.new (w1.alloc (.cells #[.int .i64 mo, .int .i64 la, .int .u8 ne] 47)) #[.int .i64 0, .int .i64 0, .int .u8 0] 47
 rw [s1, s0] at n2
 exact ⟨n0.box.box, n2, (b0.alloc (by omega) _).alloc (by omega) _⟩
set_option maxRecDepth 10000 in
set_option maxHeartbeats 1000000 in
theorem after_any (A : Option Addr) (k : Nat) (x : Rule) (s : St) (hx : x.fits) (hs : s.fits) (w : World) :
  Calls Try.prog 140 #[.agg #[.string x.p, .slice A x.c.length k, .int .u8 x.l, .int .u8 x.r, .int .i64 x.f, .int .i64 x.t], s.val] w fun e w' => e = .returned (afterS x s).val ∧ Below w.heap.size w w' := by
 obtain ⟨mo, la, ne⟩ := s
 have hp := hx.1
 have hr := hx.2.2.2.2.1
 have hn := hs.2.2
 unfold St.val
 dsimp only at hn ⊢
 have b0 := below_box w #[.string x.p, .slice A x.c.length k, .int .u8 x.l, .int .u8 x.r, .int .i64 x.f, .int .i64 x.t] 99
 have HB : Hid (Below w.heap.size w (((w.alloc (.cells #[.string x.p, .slice A x.c.length k, .int .u8 x.l, .int .u8 x.r, .int .i64 x.f, .int .i64 x.t] 99)).alloc (.cells #[.int .i64 mo, .int .i64 la, .int .u8 ne] 47)))) := b0.alloc (by simp) _
 clear b0
 by_cases h0 : x.p.size = 0
 ·
  have hq : x.p.toList.isEmpty = true := (empty_iff x.p).2 h0
  have ha : afterS x ⟨mo, la, ne⟩ = ⟨x.t, la, bits .and .u8 ne x.r⟩ := by unfold afterS; rw [if_pos h0]
  rw [ha]
  go_enter Try.func140, Try.ntmps140
  go_wp2_with fail
  refine bodyPost_ret (v := .agg #[.int .i64 x.t, .int .i64 la, .int .u8 (bits .and .u8 ne x.r)]) (by simp [results, Try.results140, go_sem]) rfl ⟨rfl, ?_⟩
  exact HB.out.alloc (by simp; omega) _
 ·
  have hq : x.p.toList.isEmpty = false := empty_no h0
  have ha : afterS x ⟨mo, la, ne⟩ = ⟨x.t, clsI (byteI x.p (x.p.size - 1)), x.r⟩ := by unfold afterS; rw [if_neg h0]
  obtain ⟨n1, hn1⟩ : ∃ n1, x.p.size = n1 + 1 := ⟨x.p.size - 1, by omega⟩
  have hlt : n1 < x.p.size := by omega
  have hby : ((x.p[n1]'hlt).toNat : Int) = byteI x.p n1 := by
   unfold byteI
   rw [List.getD_eq_getElem?_getD, bytes_at x.p n1 hlt]; rfl
  have hb0 : 0 ≤ byteI x.p n1 ∧ byteI x.p n1 < 256 := by
   rw [← hby]; have := (x.p[n1]'hlt).toNat_lt; omega
  have hs1 : x.p.size - 1 = n1 := by omega
  rw [hs1] at ha
  rw [ha]
  have hi1 : (x.p.size : Int) - 1 = (n1 : Int) := by omega
  have hn10 : (0 : Int) ≤ (n1 : Int) := by omega
  have hn11 : (n1 : Int) < (x.p.size : Int) := by omega
  have hwr : IntKind.i64.wrap (n1 : Int) = (n1 : Int) := IntWalk.i64_in _ ⟨by omega, by omega⟩
  clear hn1 hs1
  go_enter Try.func140, Try.ntmps140
  go_wp2_with fail
  have hP := Lib.hid (after_pre w A k x mo la ne)
  generalize ((w.alloc (.cells #[.string x.p, .slice A x.c.length k, .int .u8 x.l, .int .u8 x.r, .int .i64 x.f, .int .i64 x.t] 99)).alloc (.cells #[.int .i64 mo, .int .i64 la, .int .u8 ne] 47)).alloc (.cells #[.int .i64 0, .int .i64 0, .int .u8 0] 47) = V at *
  obtain ⟨q, hq⟩ : ∃ q, w.heap.size = q := ⟨_, rfl⟩
  obtain ⟨hA, hZ, hBV⟩ := hP.out
  rw [hq] at hA hZ
  simp only [hq]
  have hqV := Blk.lt hA
  have hzV := Blk.lt hZ
  have x0 := hA.cell 0
  have x3 := hA.cell 3
  have x5 := hA.cell 5
  simp only [List.getElem?_toArray, List.getElem?_cons_zero, List.getElem?_cons_succ] at x0 x3 x5
  refine wp_region_head 13 0 (by kernel_rfl) (fun y => .agg #[.string x.p, .slice A x.c.length k, .int .u8 x.l, .int .u8 x.r, .int .i64 x.f, .int .i64 x.t] :: .agg #[.int .i64 mo, .int .i64 la, .int .u8 ne] :: .pointer (some ⟨q, 0, none⟩) :: .pointer (some ⟨q + 1, 0, none⟩) :: .pointer (some ⟨q + 1 + 1, 0, none⟩) :: .pointer (some ⟨q, 0, none⟩) :: .string x.p :: .bool false :: undef :: undef :: undef :: undef :: undef :: undef :: undef :: undef :: undef :: undef :: y 0 :: y 1 :: y 2 :: y 3 :: y 4 :: y 5 :: y 6 :: y 7 :: y 8 :: y 9 :: y 10 :: y 11 :: y 12 :: [])
   (fun _ w' => Below V.heap.size V w') (phiAf q x n1) (fun _ => undef)
   (by kernel_rfl) (by kernel_rfl) (by kernel_rfl) (by kernel_rfl) ?_ (Below.refl _ _).drew [0, 1, 2, 3, 4, 5, 6, 7, 8, 9, 10, 11, 12] (by kernel_rfl) ?_ ?_
  ·
   intro j v w1 w2 h hb
   exact h
  ·
   refine allCons ?_ (allCons ?_ (allCons ?_ (allCons ?_ (allCons ?_ (allCons ?_ (allCons ?_ (allCons ?_ (allCons ?_ (allCons ?_ (allCons ?_ (allCons ?_ (allCons ?_ allNil))))))))))))
   all_goals intro y w10 K hS hd hK
   ·
    refine wpOp_step rfl (fun K2 hK2 => ?_)
    go_simp
    exact hK2 _ _ (hK _ _ hS rfl (Below.refl _ _))
   ·
    have e0 : y 0 = _ := hd 0 rfl
    obtain ⟨y, rfl⟩ := upd_at (y := y) (i := 0) e0
    dsimp [upd]
    have cc := (hS.cell (p := ⟨q, 5, none⟩) (by show q < _; omega)).trans x5
    refine wpOp_step rfl (fun K2 hK2 => ?_)
    go_simp
    exact hK2 _ _ (hK _ _ hS rfl (Below.refl _ _))
   ·
    refine wpOp_step rfl (fun K2 hK2 => ?_)
    go_simp
    exact hK2 _ _ (hK _ _ hS rfl (Below.refl _ _))
   ·
    have e2 : y 2 = _ := hd 2 rfl
    obtain ⟨y, rfl⟩ := upd_at (y := y) (i := 2) e2
    dsimp [upd]
    have cc := (hS.cell (p := ⟨q, 0, none⟩) (by show q < _; omega)).trans x0
    refine wpOp_step rfl (fun K2 hK2 => ?_)
    go_simp
    exact hK2 _ _ (hK _ _ hS rfl (Below.refl _ _))
   ·
    refine wpOp_step rfl (fun K2 hK2 => ?_)
    go_simp
    exact hK2 _ _ (hK _ _ hS rfl (Below.refl _ _))
   ·
    have e4 : y 4 = _ := hd 4 rfl
    obtain ⟨y, rfl⟩ := upd_at (y := y) (i := 4) e4
    dsimp [upd]
    have cc := (hS.cell (p := ⟨q, 0, none⟩) (by show q < _; omega)).trans x0
    refine wpOp_step rfl (fun K2 hK2 => ?_)
    go_simp
    exact hK2 _ _ (hK _ _ hS rfl (Below.refl _ _))
   ·
    have e5 : y 5 = _ := hd 5 rfl
    obtain ⟨y, rfl⟩ := upd_at (y := y) (i := 5) e5
    dsimp [upd]
    refine wpOp_step rfl (fun K2 hK2 => ?_)
    go_simp
    exact hK2 _ _ (hK _ _ hS rfl (Below.refl _ _))
   ·
    have e6 : y 6 = _ := hd 6 rfl
    obtain ⟨y, rfl⟩ := upd_at (y := y) (i := 6) e6
    dsimp [upd]
    refine wpOp_step rfl (fun K2 hK2 => ?_)
    go_simp
    exact hK2 _ _ (hK _ _ hS rfl (Below.refl _ _))
   ·
    have e3 : y 3 = _ := hd 3 rfl
    have e7 : y 7 = _ := hd 7 rfl
    obtain ⟨y, rfl⟩ := upd_at (y := y) (i := 3) e3
    obtain ⟨y, rfl⟩ := upd_at (y := y) (i := 7) e7
    dsimp [upd]
    refine wpOp_step rfl (fun K2 hK2 => ?_)
    go_simp
    exact hK2 _ _ (hK _ _ hS rfl (Below.refl _ _))
   ·
    have e8 : y 8 = _ := hd 8 rfl
    obtain ⟨y, rfl⟩ := upd_at (y := y) (i := 8) e8
    dsimp [upd]
    refine wpOp_step rfl (fun K2 hK2 => ?_)
    go_simp
    refine (class_any _ hb0.1 hb0.2 _).mono ?_
    rintro e w1 ⟨rfl, rfl⟩
    exact hK2 _ _ (hK _ _ hS rfl (Below.refl _ _))
   ·
    refine wpOp_step rfl (fun K2 hK2 => ?_)
    go_simp
    exact hK2 _ _ (hK _ _ hS rfl (Below.refl _ _))
   ·
    have e10 : y 10 = _ := hd 10 rfl
    obtain ⟨y, rfl⟩ := upd_at (y := y) (i := 10) e10
    dsimp [upd]
    have cc := (hS.cell (p := ⟨q, 3, none⟩) (by show q < _; omega)).trans x3
    refine wpOp_step rfl (fun K2 hK2 => ?_)
    go_simp
    exact hK2 _ _ (hK _ _ hS rfl (Below.refl _ _))
   ·
    have e1 : y 1 = _ := hd 1 rfl
    have e9 : y 9 = _ := hd 9 rfl
    have e11 : y 11 = _ := hd 11 rfl
    obtain ⟨y, rfl⟩ := upd_at (y := y) (i := 1) e1
    obtain ⟨y, rfl⟩ := upd_at (y := y) (i := 9) e9
    obtain ⟨y, rfl⟩ := upd_at (y := y) (i := 11) e11
    dsimp [upd]
    refine wpOp_step rfl (fun K2 hK2 => ?_)
    go_simp
    exact hK2 _ _ (hK _ _ hS rfl (Below.refl _ _))
  ·
   intro y w10 f hS hd
   have e12 : y 12 = _ := hd 12 (by decide)
   clear hd
   obtain ⟨y, rfl⟩ := upd_at (y := y) (i := 12) e12
   dsimp [upd]
   have hZ2 := hZ.keep hS (by omega)
   have z0 := hZ2.cell 0
   have z1 := hZ2.cell 1
   have z2 := hZ2.cell 2
   have f0 := hZ2.free 0
   have f1 := hZ2.free 1
   have f2 := hZ2.free 2
   simp only [List.getElem?_toArray, List.getElem?_cons_zero, List.getElem?_cons_succ] at z0 z1 z2
   refine wpAny_one (i := 13) (by kernel_rfl) ?_
   refine wpOp_step rfl (fun K2 hK2 => ?_)
   go_simp
   refine hK2 _ _ ?_
   clear hK2 K2
   refine wpAny_done (by kernel_rfl) ?_ _
   have hE := st_end (q := q + 1 + 1) (hBV.trans (hS.mono (by omega))) (by omega) x.t (clsI (byteI x.p n1)) x.r
   go_wp2_with fail
   refine bodyPost_ret (v := .agg #[.int .i64 x.t, .int .i64 (clsI (byteI x.p n1)), .int .u8 x.r]) (by simp [results, Try.results140, go_sem, z0, z1, z2]) rfl ⟨rfl, ?_⟩
   first | exact hE | (rw [← hq]; exact hE) | (rw [hq] at hE; exact hE)
end Go.Proofs.Ytpkdlljefkbmpaa

/-! Package automaton: Step. -/
namespace Go.Proofs.Ytpkdlljefkbmpaa
open Go.RowKit

def St.zero : St := ⟨0, 0, 0⟩
def stepS (rs : List Rule) (s : St) (k : Int) : St × Bool := if k < 0 then (St.zero, false) else match rs[k.toNat]? with
 | none => (St.zero, false)
 | some x => match stepR x s with
  | none => (St.zero, false)
  | some t => (t, true)
def StepEnd (r : St × Bool) (w : World) (e : Ending) (w' : World) : Prop := e = .returned (.tuple #[r.1.val, .bool r.2]) ∧ Below w.heap.size w w'
theorem stepS_out {rs : List Rule} {s : St} {k : Int} (h : k < 0 ∨ (rs.length : Int) ≤ k) : stepS rs s k = (St.zero, false) := by
 unfold stepS
 rcases h with h | h
 ·
  rw [if_pos h]
 ·
  by_cases h0 : k < 0
  ·
   rw [if_pos h0]
  ·
   rw [if_neg h0, List.getElem?_eq_none (by omega)]
theorem stepS_at {rs : List Rule} {s : St} {j : Nat} {x : Rule} (h : rs[j]? = some x) : stepS rs s (j : Int) = match stepR x s with
  | none => (St.zero, false)
  | some t => (t, true) := by
 unfold stepS
 rw [if_neg (by omega), Int.toNat_natCast, h]
theorem step_pre (w : World) (m a : Int) (A : Option Addr) (n k : Nat) (mo la ne : Int) :
  Blk (((w.alloc (.cells #[.int .i64 m, .int .u8 a, .slice A n k] 30)).alloc (.cells #[.int .i64 mo, .int .i64 la, .int .u8 ne] 47)).alloc (.cells #[.int .i64 0, .int .i64 0, .int .u8 0] 47)) w.heap.size 30 #[.int .i64 m, .int .u8 a, .slice A n k] ∧ Blk (((w.alloc (.cells #[.int .i64 m, .int .u8 a, .slice A n k] 30)).alloc (.cells #[.int .i64 mo, .int .i64 la, .int .u8 ne] 47)).alloc (.cells #[.int .i64 0, .int .i64 0, .int .u8 0] 47)) (w.heap.size + 1) 47 #[.int .i64 mo, .int .i64 la, .int .u8 ne] ∧ Blk (((w.alloc (.cells #[.int .i64 m, .int .u8 a, .slice A n k] 30)).alloc (.cells #[.int .i64 mo, .int .i64 la, .int .u8 ne] 47)).alloc (.cells #[.int .i64 0, .int .i64 0, .int .u8 0] 47)) (w.heap.size + 1 + 1) 47 #[.int .i64 0, .int .i64 0, .int .u8 0] ∧ Below w.heap.size w (((w.alloc (.cells #[.int .i64 m, .int .u8 a, .slice A n k] 30)).alloc (.cells #[.int .i64 mo, .int .i64 la, .int .u8 ne] 47)).alloc (.cells #[.int .i64 0, .int .i64 0, .int .u8 0] 47)) ∧ (((w.alloc (.cells #[.int .i64 m, .int .u8 a, .slice A n k] 30)).alloc (.cells #[.int .i64 mo, .int .i64 la, .int .u8 ne] 47)).alloc (.cells #[.int .i64 0, .int .i64 0, .int .u8 0] 47)).heap.size = w.heap.size + 3 := by
 have b0 := below_box w #[.int .i64 m, .int .u8 a, .slice A n k] 30
 have n0 := Blk.new w #[.int .i64 m, .int .u8 a, .slice A n k] 30
 have s0 : (w.alloc (.cells #[.int .i64 m, .int .u8 a, .slice A n k] 30)).heap.size = w.heap.size + 1 := by simp
 generalize w.alloc (.cells #[.int .i64 m, .int .u8 a, .slice A n k] 30) = w1 at *
 have n1 := Blk.new w1 #[.int .i64 mo, .int .i64 la, .int .u8 ne] 47
 have s1 : (w1.alloc (.cells #[.int .i64 mo, .int .i64 la, .int .u8 ne] 47)).heap.size = w1.heap.size + 1 := by simp
 have b1 := b0.alloc (by omega) (.cells #[.int .i64 mo, .int .i64 la, .int .u8 ne] 47)
 have n0' : Blk (w1.alloc (.cells #[.int .i64 mo, .int .i64 la, .int .u8 ne] 47)) w.heap.size 30 #[.int .i64 m, .int .u8 a, .slice A n k] := n0.box
 generalize w1.alloc (.cells #[.int .i64 mo, .int .i64 la, .int .u8 ne] 47) = w2 at *
 have n2 := Blk.new w2 #[.int .i64 0, .int .i64 0, .int .u8 0] 47
 have s2 : (w2.alloc (.cells #[.int .i64 0, .int .i64 0, .int .u8 0] 47)).heap.size = w2.heap.size + 1 := by simp
 rw [s0] at n1
 rw [s1, s0] at n2
 refine ⟨?_, n1.box, n2, b1.alloc (by omega) _, by omega⟩
 exact n0'.box
set_option maxRecDepth 10000 in
set_option maxHeartbeats 2000000 in
theorem step_any (m a : Int) (A : Option Addr) (n k : Nat) (rs : List Rule) (s : St) (r : Int) (hn : rs.length = n) (hs : s.fits) (hmax : n < 2 ^ 40) (w : World) (hR : Rules w w.heap.size A rs) :
  Calls Try.prog 102 #[.agg #[.int .i64 m, .int .u8 a, .slice A n k], s.val, .int .i64 r] w (StepEnd (stepS rs s r) w) := by
 obtain ⟨mo, la, ne⟩ := s
 have hne := hs.2.2
 have HS := Lib.hid hs
 unfold St.val
 dsimp only at hne ⊢
 obtain ⟨q, hq⟩ : ∃ q, w.heap.size = q := ⟨_, rfl⟩
 have HP := Lib.hid (step_pre w m a A n k mo la ne)
 rw [hq] at HP
 have z0 := HP.out.2.2.1.cell 0
 have z1 := HP.out.2.2.1.cell 1
 have z2 := HP.out.2.2.1.cell 2
 have zf0 := HP.out.2.2.1.free 0
 have zf1 := HP.out.2.2.1.free 1
 have zf2 := HP.out.2.2.1.free 2
 simp only [List.getElem?_toArray, List.getElem?_cons_zero, List.getElem?_cons_succ] at z0 z1 z2
 rw [hq] at hR
 have HR := Lib.hid hR
 have HN := Lib.hid hn
 clear hR hn hs
 by_cases hr0 : r < 0
 ·
  have he := stepS_out (rs := rs) (s := ⟨mo, la, ne⟩) (k := r) (Or.inl hr0)
  rw [he]
  go_enter Try.func102, Try.ntmps102
  go_wp2_with fail
  refine bodyPost_ret (v := .tuple #[St.zero.val, .bool false]) (by simp [results, Try.results102, go_sem, z0, z1, z2]; rfl) rfl ⟨rfl, ?_⟩
  first | exact HP.out.2.2.2.1 | (rw [hq]; exact HP.out.2.2.2.1)
 ·
  by_cases hrn : (n : Int) ≤ r
  ·
   have he := stepS_out (rs := rs) (s := ⟨mo, la, ne⟩) (k := r) (Or.inr (by rw [HN.out]; exact hrn))
   rw [he]
   go_enter Try.func102, Try.ntmps102
   go_wp2_with fail
   refine bodyPost_ret (v := .tuple #[St.zero.val, .bool false]) (by simp [results, Try.results102, go_sem, z0, z1, z2]; rfl) rfl ⟨rfl, ?_⟩
   first | exact HP.out.2.2.2.1 | (rw [hq]; exact HP.out.2.2.2.1)
  ·
   obtain ⟨j, rfl⟩ : ∃ j : Nat, r = (j : Int) := ⟨r.toNat, by omega⟩
   have hj : j < rs.length := by have := HN.out; omega
   obtain ⟨x, hx⟩ : ∃ x, rs[j] = x := ⟨_, rfl⟩
   rw [stepS_at (x := x) (by rw [List.getElem?_eq_getElem hj, hx])]
   obtain ⟨b, o, rfl, hb, hc⟩ := HR.out (by omega)
   have hcj := hc j hj
   rw [hx] at hcj
   obtain ⟨A9, k9, d0, d1, d2, d3, d4, d5, hsq, hfit⟩ := hcj.keep hb HP.out.2.2.2.1
   clear hc hcj hx HR
   have HF := Lib.hid hfit
   obtain ⟨r1, h1⟩ : ∃ r, bitB x.l la = r := ⟨_, rfl⟩
   obtain ⟨r2, h2⟩ : ∃ r, mayB x ne = r := ⟨_, rfl⟩
   have H1 := Lib.hid h1
   have H2 := Lib.hid h2
   have hl : 0 ≤ x.l ∧ x.l < 256 := hfit.2.2.2.1
   clear h1 h2 hsq hfit
   have hjn : (j : Int) < (n : Int) := by omega
   have hj0 : (0 : Int) ≤ (j : Int) := by omega
   have hsp : x.f ≠ mo ∨ x.f = mo := by omega
   rcases hsp with hfm | hfm
   ·
    have he : stepR x ⟨mo, la, ne⟩ = none := by unfold stepR; rw [if_pos (Or.inl hfm)]
    have hfb : (x.f != mo) = true := by rw [bne_iff_ne]; exact hfm
    have HZ : Hid (Blk ((((w.alloc (.cells #[.int .i64 m, .int .u8 a, .slice (some ⟨b, o, none⟩) n k] 30)).alloc (.cells #[.int .i64 mo, .int .i64 la, .int .u8 ne] 47)).alloc (.cells #[.int .i64 0, .int .i64 0, .int .u8 0] 47)).alloc (.cells #[.string x.p, .slice A9 x.c.length k9, .int .u8 x.l, .int .u8 x.r, .int .i64 x.f, .int .i64 x.t] 99)) (q + 1 + 1) 47 #[.int .i64 0, .int .i64 0, .int .u8 0]) := HP.out.2.2.1.box
    have HB4 : Hid (Below q w ((((w.alloc (.cells #[.int .i64 m, .int .u8 a, .slice (some ⟨b, o, none⟩) n k] 30)).alloc (.cells #[.int .i64 mo, .int .i64 la, .int .u8 ne] 47)).alloc (.cells #[.int .i64 0, .int .i64 0, .int .u8 0] 47)).alloc (.cells #[.string x.p, .slice A9 x.c.length k9, .int .u8 x.l, .int .u8 x.r, .int .i64 x.f, .int .i64 x.t] 99))) := HP.out.2.2.2.1.alloc (by have := HP.out.2.2.2.2; omega) _
    have y0 := HZ.out.cell 0
    have y1 := HZ.out.cell 1
    have y2 := HZ.out.cell 2
    simp only [List.getElem?_toArray, List.getElem?_cons_zero, List.getElem?_cons_succ] at y0 y1 y2
    rw [he]
    clear hfm
    go_enter Try.func102, Try.ntmps102
    go_wp2_with fail
    refine bodyPost_ret (v := .tuple #[St.zero.val, .bool false]) (by simp [results, Try.results102, go_sem, y0, y1, y2]; rfl) rfl ⟨rfl, ?_⟩
    first | exact HB4.out | (rw [hq]; exact HB4.out)
   ·
    subst hfm
    have hfb : (x.f != x.f) = false := by simp
    have HZ : Hid (Blk ((((w.alloc (.cells #[.int .i64 m, .int .u8 a, .slice (some ⟨b, o, none⟩) n k] 30)).alloc (.cells #[.int .i64 x.f, .int .i64 la, .int .u8 ne] 47)).alloc (.cells #[.int .i64 0, .int .i64 0, .int .u8 0] 47)).alloc (.cells #[.string x.p, .slice A9 x.c.length k9, .int .u8 x.l, .int .u8 x.r, .int .i64 x.f, .int .i64 x.t] 99)) (q + 1 + 1) 47 #[.int .i64 0, .int .i64 0, .int .u8 0]) := HP.out.2.2.1.box
    have HT : Hid (Blk ((((w.alloc (.cells #[.int .i64 m, .int .u8 a, .slice (some ⟨b, o, none⟩) n k] 30)).alloc (.cells #[.int .i64 x.f, .int .i64 la, .int .u8 ne] 47)).alloc (.cells #[.int .i64 0, .int .i64 0, .int .u8 0] 47)).alloc (.cells #[.string x.p, .slice A9 x.c.length k9, .int .u8 x.l, .int .u8 x.r, .int .i64 x.f, .int .i64 x.t] 99)) (q + 1) 47 #[.int .i64 x.f, .int .i64 la, .int .u8 ne]) := HP.out.2.1.box
    have HX : Hid (Blk ((((w.alloc (.cells #[.int .i64 m, .int .u8 a, .slice (some ⟨b, o, none⟩) n k] 30)).alloc (.cells #[.int .i64 x.f, .int .i64 la, .int .u8 ne] 47)).alloc (.cells #[.int .i64 0, .int .i64 0, .int .u8 0] 47)).alloc (.cells #[.string x.p, .slice A9 x.c.length k9, .int .u8 x.l, .int .u8 x.r, .int .i64 x.f, .int .i64 x.t] 99)) (q + 1 + 1 + 1) 99 #[.string x.p, .slice A9 x.c.length k9, .int .u8 x.l, .int .u8 x.r, .int .i64 x.f, .int .i64 x.t]) := by
     have h := Blk.new (((w.alloc (.cells #[.int .i64 m, .int .u8 a, .slice (some ⟨b, o, none⟩) n k] 30)).alloc (.cells #[.int .i64 x.f, .int .i64 la, .int .u8 ne] 47)).alloc (.cells #[.int .i64 0, .int .i64 0, .int .u8 0] 47)) #[.string x.p, .slice A9 x.c.length k9, .int .u8 x.l, .int .u8 x.r, .int .i64 x.f, .int .i64 x.t] 99
     rw [HP.out.2.2.2.2] at h
     exact h
    have HB4 : Hid (Below q w ((((w.alloc (.cells #[.int .i64 m, .int .u8 a, .slice (some ⟨b, o, none⟩) n k] 30)).alloc (.cells #[.int .i64 x.f, .int .i64 la, .int .u8 ne] 47)).alloc (.cells #[.int .i64 0, .int .i64 0, .int .u8 0] 47)).alloc (.cells #[.string x.p, .slice A9 x.c.length k9, .int .u8 x.l, .int .u8 x.r, .int .i64 x.f, .int .i64 x.t] 99))) := HP.out.2.2.2.1.alloc (by have := HP.out.2.2.2.2; omega) _
    have y0 := HZ.out.cell 0
    have y1 := HZ.out.cell 1
    have y2 := HZ.out.cell 2
    simp only [List.getElem?_toArray, List.getElem?_cons_zero, List.getElem?_cons_succ] at y0 y1 y2
    cases r1
    ·
     have he : stepR x ⟨x.f, la, ne⟩ = none := by unfold stepR; rw [if_pos (Or.inr (Or.inl H1.out))]
     rw [he]
     go_enter Try.func102, Try.ntmps102
     go_wp2_with fail
     refine (hasBit_any x.l la hl _).mono ?_
     rintro e w5 ⟨rfl, rfl⟩
     rw [H1.out]
     go_wp2_with fail
     refine bodyPost_ret (v := .tuple #[St.zero.val, .bool false]) (by simp [results, Try.results102, go_sem, y0, y1, y2]; rfl) rfl ⟨rfl, ?_⟩
     first | exact HB4.out | (rw [hq]; exact HB4.out)
    ·
     have x0 := HX.out.cell 0
     have x1 := HX.out.cell 1
     have x2 := HX.out.cell 2
     have x3 := HX.out.cell 3
     have x4 := HX.out.cell 4
     have x5 := HX.out.cell 5
     have t2 := HT.out.cell 2
     simp only [List.getElem?_toArray, List.getElem?_cons_zero, List.getElem?_cons_succ] at x0 x1 x2 x3 x4 x5 t2
     have hs4 : q + 4 = ((((w.alloc (.cells #[.int .i64 m, .int .u8 a, .slice (some ⟨b, o, none⟩) n k] 30)).alloc (.cells #[.int .i64 x.f, .int .i64 la, .int .u8 ne] 47)).alloc (.cells #[.int .i64 0, .int .i64 0, .int .u8 0] 47)).alloc (.cells #[.string x.p, .slice A9 x.c.length k9, .int .u8 x.l, .int .u8 x.r, .int .i64 x.f, .int .i64 x.t] 99)).heap.size := by have := HP.out.2.2.2.2; simp at this ⊢; omega
     obtain ⟨so, hso⟩ : ∃ so, stepR x ⟨x.f, la, ne⟩ = so := ⟨_, rfl⟩
     have HSO := Lib.hid hso
     rw [hso]
     clear hso
     go_enter Try.func102, Try.ntmps102
     go_wp2_with fail
     refine (hasBit_any x.l la hl _).mono ?_
     rintro e w5 ⟨rfl, rfl⟩
     rw [H1.out]
     go_wp2_with fail
     refine (mayFollow_any A9 k9 x ne HF.out hne _).mono ?_
     rintro e w6 ⟨rfl, hb6⟩
     rw [H2.out]
     have HZ6 := Lib.hid (HZ.out.keep hb6 (Blk.lt HZ.out))
     have HT6 := Lib.hid (HT.out.keep hb6 (Blk.lt HT.out))
     have HX6 := Lib.hid (HX.out.keep hb6 (Blk.lt HX.out))
     have HB6 : Hid (Below q w w6) := HB4.out.trans (hb6.mono (by omega))
     clear hb6 hs4 x0 x1 x2 x3 x4 x5 t2 y0 y1 y2 z0 z1 z2 zf0 zf1 zf2 d0 d1 d2 d3 d4 d5 HZ HT HX HB4 HP
     have z0 := HZ6.out.cell 0
     have z1 := HZ6.out.cell 1
     have z2 := HZ6.out.cell 2
     have f0 := HZ6.out.free 0
     have f1 := HZ6.out.free 1
     have f2 := HZ6.out.free 2
     have x0 := HX6.out.cell 0
     have x1 := HX6.out.cell 1
     have x2 := HX6.out.cell 2
     have x3 := HX6.out.cell 3
     have x4 := HX6.out.cell 4
     have x5 := HX6.out.cell 5
     have t0 := HT6.out.cell 0
     have t1 := HT6.out.cell 1
     have t2 := HT6.out.cell 2
     simp only [List.getElem?_toArray, List.getElem?_cons_zero, List.getElem?_cons_succ] at z0 z1 z2 x0 x1 x2 x3 x4 x5 t0 t1 t2
     have hb6 := Blk.lt HZ6.out
     cases r2
     ·
      have he : so = none := by rw [← HSO.out]; unfold stepR; rw [if_pos (Or.inr (Or.inr H2.out))]
      subst he
      have hE := Lib.hid (st_end (q := q + 1 + 1) (w := w) (V := w6) (by rw [hq]; exact HB6.out) (by omega) 0 0 0)
      go_wp2_with fail
      refine bodyPost_ret (v := .tuple #[St.zero.val, .bool false]) (by simp [results, Try.results102, go_sem, z0, z1, z2]; rfl) rfl ⟨rfl, ?_⟩
      exact hE.out
     ·
      have he : so = some (afterS x ⟨x.f, la, ne⟩) := by
       rw [← HSO.out]; unfold stepR
       rw [if_neg (by rintro (h | h | h); exact h rfl; exact absurd (H1.out.symm.trans h) (by decide); exact absurd (H2.out.symm.trans h) (by decide))]
      subst he
      go_wp2_with fail
      refine (after_any A9 k9 x ⟨x.f, la, ne⟩ HF.out HS.out _).mono ?_
      rintro e w7 ⟨rfl, hb7⟩
      have HZ7 := Lib.hid (HZ6.out.keep hb7 hb6)
      have HB7 : Hid (Below q w w7) := HB6.out.trans (hb7.mono (by omega))
      clear hb7 z0 z1 z2 f0 f1 f2
      have z0 := HZ7.out.cell 0
      have z1 := HZ7.out.cell 1
      have z2 := HZ7.out.cell 2
      have f0 := HZ7.out.free 0
      have f1 := HZ7.out.free 1
      have f2 := HZ7.out.free 2
      simp only [List.getElem?_toArray, List.getElem?_cons_zero, List.getElem?_cons_succ] at z0 z1 z2
      obtain ⟨st, hst⟩ : ∃ st, afterS x ⟨x.f, la, ne⟩ = st := ⟨_, rfl⟩
      have HST := Lib.hid hst
      rw [hst]
      clear hst
      obtain ⟨ta, tb, tc⟩ := st
      have hE := Lib.hid (st_end (q := q + 1 + 1) (w := w) (V := w7) (by rw [hq]; exact HB7.out) (by omega) ta tb tc)
      unfold St.val
      dsimp only
      go_wp2_with fail
      refine bodyPost_ret (v := .tuple #[.agg #[.int .i64 ta, .int .i64 tb, .int .u8 tc], .bool true]) (by simp [results, Try.results102, go_sem, z0, z1, z2]) rfl ⟨by simp only [HST.out]; rfl, ?_⟩
      exact hE.out
end Go.Proofs.Ytpkdlljefkbmpaa

/-! The reference of package automaton: Accepts. -/
namespace Go.Proofs.Ytpkdlljefkbmpaa
open Go.RowKit

def rAccB (m a : Int) (s : St) : Bool := decide (0 ≤ s.mode) && (decide (s.mode < m) && accB a s)
theorem rAcc_eq {m a : Int} {s : St} (h0 : 0 ≤ a) (h : a < 2 ^ m.toNat) : rAccB m a s = accB a s := by
 unfold rAccB
 by_cases h1 : 0 ≤ s.mode
 ·
  by_cases h2 : s.mode < m
  ·
   simp [h1, h2]
  ·
   have hb : bitB a s.mode = false := by
    unfold bitB
    have hz : a / 2 ^ s.mode.toNat = 0 := by
     refine Int.ediv_eq_zero_of_lt h0 ?_
     have hle : (2 : Nat) ^ m.toNat ≤ 2 ^ s.mode.toNat := Nat.pow_le_pow_right (by decide) (by omega)
     have e1 : ((2 ^ m.toNat : Nat) : Int) = (2 : Int) ^ m.toNat := by simp
     have e2 : ((2 ^ s.mode.toNat : Nat) : Int) = (2 : Int) ^ s.mode.toNat := by simp
     omega
    rw [hz]
    simp
   unfold accB
   rw [hb]
   simp
 ·
  have hb : bitB a s.mode = false := bit_neg a s.mode (by omega)
  unfold accB
  rw [hb]
  simp
set_option maxRecDepth 10000 in
theorem rAccepts_any (m a : Int) (A : Option Addr) (n k : Nat) (s : St) (ha : 0 ≤ a ∧ a < 256) (hs : s.fits) (w : World) :
  Calls Try.prog 64 #[.agg #[.int .i64 m, .int .u8 a, .slice A n k], s.val] w fun e w' => e = .returned (.bool (rAccB m a s)) ∧ Below w.heap.size w w' := by
 obtain ⟨mo, la, ne⟩ := s
 have hne := hs.2.2
 unfold St.val rAccB accB
 dsimp only at hne ⊢
 have hB : Below w.heap.size w ((w.alloc (.cells #[.int .i64 m, .int .u8 a, .slice A n k] 30)).alloc (.cells #[.int .i64 mo, .int .i64 la, .int .u8 ne] 47)) := ((Below.refl _ _).alloc (Nat.le_refl _) _).alloc (by simp) _
 have HB := Lib.hid hB
 clear hB
 obtain ⟨r1, h1⟩ : ∃ r, bitB a mo = r := ⟨_, rfl⟩
 obtain ⟨r2, h2⟩ : ∃ r, bitB ne 0 = r := ⟨_, rfl⟩
 rw [h1, h2]
 have H1 := Lib.hid h1
 have H2 := Lib.hid h2
 clear h1 h2
 by_cases g1 : 0 ≤ mo
 ·
  by_cases g2 : mo < m
  ·
   rw [show decide (0 ≤ mo) = true by simp [g1], show decide (mo < m) = true by simp [g2]]
   go_enter Try.func64, Try.ntmps64
   go_wp2_with fail
   refine (rBit_any a mo ha _).mono ?_
   rintro e w1 ⟨rfl, rfl⟩
   rw [H1.out]
   cases r1
   ·
    go_wp2
    go_ret
    exact ⟨rfl, HB.out⟩
   ·
    go_wp2_with fail
    refine (rBit_any ne 0 hne _).mono ?_
    rintro e w1 ⟨rfl, rfl⟩
    rw [H2.out]
    cases r2
    ·
     go_wp2
     go_ret
     exact ⟨rfl, HB.out⟩
    ·
     go_wp2
     go_ret
     exact ⟨rfl, HB.out⟩
  ·
   rw [show decide (0 ≤ mo) = true by simp [g1], show decide (mo < m) = false by simp; omega]
   go_enter Try.func64, Try.ntmps64
   go_wp2
   go_ret
   exact ⟨rfl, HB.out⟩
 ·
  rw [show decide (0 ≤ mo) = false by simp; omega]
  go_enter Try.func64, Try.ntmps64
  go_wp2
  go_ret
  exact ⟨rfl, HB.out⟩
end Go.Proofs.Ytpkdlljefkbmpaa
