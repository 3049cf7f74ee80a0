/- Package automaton: a rule's step; the reference's Accepts. -/
import Derived.Test.YtiedaongfjcbhaaAut1
import Derived.Test.YtiedaongfjcbhaaTab1
import Derived.Test.YtiedaongfjcbhaaInv4
namespace Go.Proofs.Ytiedaongfjcbhaa
open Go.RowKit

theorem empty_iff (p : ByteArray) : p.toList.isEmpty = true ↔ p.size = 0 := by
  rw [ByteArray.toList_eq, List.isEmpty_iff, ← List.length_eq_zero_iff, Array.length_toList]
  rfl
theorem empty_no {p : ByteArray} (h : ¬ p.size = 0) : p.toList.isEmpty = false := by
  cases hb : p.toList.isEmpty with
  | false => rfl
  | true => exact absurd ((empty_iff p).1 hb) h
def byteI (p : ByteArray) (i : Nat) : Int := ((bytes p).getD i 0 : Nat)
def mayB (x : Rule) (need : Int) : Bool := if x.p.size = 0 then bits .and .u8 need x.r != 0 else bitB need (clsI (byteI x.p 0))
def afterS (x : Rule) (s : St) : St := if x.p.size = 0 then ⟨x.t, s.last, bits .and .u8 s.need x.r⟩ else ⟨x.t, clsI (byteI x.p (x.p.size - 1)), x.r⟩
/-- The state to which a rule leads, if it applies. -/
def stepR (x : Rule) (s : St) : Option St := if x.f ≠ s.mode ∨ bitB x.l s.last = false ∨ mayB x s.need = false then none else some (afterS x s)
set_option maxRecDepth 10000 in
theorem mayFollow_any (A : Option Addr) (k : Nat) (x : Rule) (need : Int) (hx : x.fits) (hn : 0 ≤ need ∧ need < 256) (w : World) :
    Calls Try.prog 38 #[.agg #[.string x.p, .slice A x.c.length k, .int .u8 x.l, .int .u8 x.r, .int .i64 x.f, .int .i64 x.t], .int .u8 need] w fun e w' => e = .returned (.bool (mayB x need)) ∧ Below w.heap.size w w' := by
  have HB : Hid (Below w.heap.size w (w.alloc (.cells #[.string x.p, .slice A x.c.length k, .int .u8 x.l, .int .u8 x.r, .int .i64 x.f, .int .i64 x.t] 55))) := below_box _ _ _
  have hp := hx.1
  by_cases h0 : x.p.size = 0
  · have hm : mayB x need = (bits .and .u8 need x.r != 0) := by unfold mayB; rw [if_pos h0]
    have hq : x.p.toList.isEmpty = true := (empty_iff x.p).2 h0
    obtain ⟨r, hr⟩ : ∃ r, (bits .and .u8 need x.r != 0) = r := ⟨_, rfl⟩
    rw [hm, hr]
    clear hm
    go_enter Try.func38, Try.ntmps38
    go_wp2
    go_ret
    exact ⟨rfl, HB.out⟩
  · have hm : mayB x need = bitB need (clsI (byteI x.p 0)) := by unfold mayB; rw [if_neg h0]
    have hq : x.p.toList.isEmpty = false := empty_no h0
    have hlt : 0 < x.p.size := by omega
    have hby : ((x.p[0]'hlt).toNat : Int) = byteI x.p 0 := by
      unfold byteI
      rw [List.getD_eq_getElem?_getD, bytes_at x.p 0 hlt]; rfl
    have hb0 : 0 ≤ byteI x.p 0 ∧ byteI x.p 0 < 256 := by
      rw [← hby]; have := (x.p[0]'hlt).toNat_lt; omega
    obtain ⟨r, hr⟩ : ∃ r, bitB need (clsI (byteI x.p 0)) = r := ⟨_, rfl⟩
    have HR := Lib.hid hr
    rw [hm, hr]
    clear hm hr
    go_enter Try.func38, Try.ntmps38
    go_wp2_with fail
    refine (class_any _ hb0.1 hb0.2 _).mono ?_
    rintro e w1 ⟨rfl, rfl⟩
    go_wp2_with fail
    refine (hasBit_any need _ hn _).mono ?_
    rintro e w1 ⟨rfl, rfl⟩
    rw [HR.out]
    go_wp2
    go_ret
    exact ⟨rfl, HB.out⟩
def phiAf (q : Nat) (x : Rule) (n1 : Nat) (j : Nat) (v : Value) (_w : World) : Prop := match j with
  | 0 => v = .pointer (some ⟨q, 5, none⟩)
  | 1 => v = .int .i64 x.t
  | 2 => v = .pointer (some ⟨q, 0, none⟩)
  | 3 => v = .string x.p
  | 4 => v = .pointer (some ⟨q, 0, none⟩)
  | 5 => v = .string x.p
  | 6 => v = .int .i64 x.p.size
  | 7 => v = .int .i64 n1
  | 8 => v = .int .u8 (byteI x.p n1)
  | 9 => v = .int .i64 (clsI (byteI x.p n1))
  | 10 => v = .pointer (some ⟨q, 3, none⟩)
  | 11 => v = .int .u8 x.r
  | 12 => v = .agg #[.int .i64 x.t, .int .i64 (clsI (byteI x.p n1)), .int .u8 x.r]
  | _ => True
theorem st_end {w V : World} {q : Nat} (hB : Below w.heap.size w V) (h : w.heap.size ≤ q) (a b c : Int) : Below w.heap.size w (((V.setCell ⟨q, 0, none⟩ (.int .i64 a)).setCell ⟨q, 1, none⟩ (.int .i64 b)).setCell ⟨q, 2, none⟩ (.int .u8 c)) :=
  ((hB.setCell h _).setCell h _).setCell h _
theorem after_pre (w : World) (A : Option Addr) (k : Nat) (x : Rule) (mo la ne : Int) :
    Blk (((w.alloc (.cells #[.string x.p, .slice A x.c.length k, .int .u8 x.l, .int .u8 x.r, .int .i64 x.f, .int .i64 x.t] 55)).alloc (.cells #[.int .i64 mo, .int .i64 la, .int .u8 ne] 26)).alloc (.cells #[.int .i64 0, .int .i64 0, .int .u8 0] 26)) w.heap.size 55 #[.string x.p, .slice A x.c.length k, .int .u8 x.l, .int .u8 x.r, .int .i64 x.f, .int .i64 x.t] ∧
    Blk (((w.alloc (.cells #[.string x.p, .slice A x.c.length k, .int .u8 x.l, .int .u8 x.r, .int .i64 x.f, .int .i64 x.t] 55)).alloc (.cells #[.int .i64 mo, .int .i64 la, .int .u8 ne] 26)).alloc (.cells #[.int .i64 0, .int .i64 0, .int .u8 0] 26)) (w.heap.size + 1 + 1) 26 #[.int .i64 0, .int .i64 0, .int .u8 0] ∧
    Below w.heap.size w (((w.alloc (.cells #[.string x.p, .slice A x.c.length k, .int .u8 x.l, .int .u8 x.r, .int .i64 x.f, .int .i64 x.t] 55)).alloc (.cells #[.int .i64 mo, .int .i64 la, .int .u8 ne] 26)).alloc (.cells #[.int .i64 0, .int .i64 0, .int .u8 0] 26)) := by
  have b0 := below_box w #[.string x.p, .slice A x.c.length k, .int .u8 x.l, .int .u8 x.r, .int .i64 x.f, .int .i64 x.t] 55
  have n0 := Blk.new w #[.string x.p, .slice A x.c.length k, .int .u8 x.l, .int .u8 x.r, .int .i64 x.f, .int .i64 x.t] 55
  have s0 : (w.alloc (.cells #[.string x.p, .slice A x.c.length k, .int .u8 x.l, .int .u8 x.r, .int .i64 x.f, .int .i64 x.t] 55)).heap.size = w.heap.size + 1 := by simp
  generalize w.alloc (.cells #[.string x.p, .slice A x.c.length k, .int .u8 x.l, .int .u8 x.r, .int .i64 x.f, .int .i64 x.t] 55) = w1 at *
  have s1 : (w1.alloc (.cells #[.int .i64 mo, .int .i64 la, .int .u8 ne] 26)).heap.size = w1.heap.size + 1 := by simp
  have n2 := Blk.new (w1.alloc (.cells #[.int .i64 mo, .int .i64 la, .int .u8 ne] 26)) #[.int .i64 0, .int .i64 0, .int .u8 0] 26
  rw [s1, s0] at n2
  exact ⟨n0.box.box, n2, (b0.alloc (by omega) _).alloc (by omega) _⟩
set_option maxRecDepth 10000 in
set_option maxHeartbeats 1000000 in
theorem after_any (A : Option Addr) (k : Nat) (x : Rule) (s : St) (hx : x.fits) (hs : s.fits) (w : World) :
    Calls Try.prog 39 #[.agg #[.string x.p, .slice A x.c.length k, .int .u8 x.l, .int .u8 x.r, .int .i64 x.f, .int .i64 x.t], s.val] w fun e w' => e = .returned (afterS x s).val ∧ Below w.heap.size w w' := by
  obtain ⟨mo, la, ne⟩ := s
  have hp := hx.1
  have hr := hx.2.2.2.2.1
  have hn := hs.2.2
  unfold St.val
  dsimp only at hn ⊢
  have b0 := below_box w #[.string x.p, .slice A x.c.length k, .int .u8 x.l, .int .u8 x.r, .int .i64 x.f, .int .i64 x.t] 55
  have HB : Hid (Below w.heap.size w (((w.alloc (.cells #[.string x.p, .slice A x.c.length k, .int .u8 x.l, .int .u8 x.r, .int .i64 x.f, .int .i64 x.t] 55)).alloc (.cells #[.int .i64 mo, .int .i64 la, .int .u8 ne] 26)))) := b0.alloc (by simp) _
  clear b0
  by_cases h0 : x.p.size = 0
  · have hq : x.p.toList.isEmpty = true := (empty_iff x.p).2 h0
    have ha : afterS x ⟨mo, la, ne⟩ = ⟨x.t, la, bits .and .u8 ne x.r⟩ := by unfold afterS; rw [if_pos h0]
    rw [ha]
    go_enter Try.func39, Try.ntmps39
    go_wp2_with fail
    refine bodyPost_ret (v := .agg #[.int .i64 x.t, .int .i64 la, .int .u8 (bits .and .u8 ne x.r)]) (by simp [results, Try.results39, go_sem]) rfl ⟨rfl, ?_⟩
    exact HB.out.alloc (by simp; omega) _
  · have hq : x.p.toList.isEmpty = false := empty_no h0
    have ha : afterS x ⟨mo, la, ne⟩ = ⟨x.t, clsI (byteI x.p (x.p.size - 1)), x.r⟩ := by unfold afterS; rw [if_neg h0]
    obtain ⟨n1, hn1⟩ : ∃ n1, x.p.size = n1 + 1 := ⟨x.p.size - 1, by omega⟩
    have hlt : n1 < x.p.size := by omega
    have hby : ((x.p[n1]'hlt).toNat : Int) = byteI x.p n1 := by
      unfold byteI
      rw [List.getD_eq_getElem?_getD, bytes_at x.p n1 hlt]; rfl
    have hb0 : 0 ≤ byteI x.p n1 ∧ byteI x.p n1 < 256 := by
      rw [← hby]; have := (x.p[n1]'hlt).toNat_lt; omega
    have hs1 : x.p.size - 1 = n1 := by omega
    rw [hs1] at ha
    rw [ha]
    have hi1 : (x.p.size : Int) - 1 = (n1 : Int) := by omega
    have hn10 : (0 : Int) ≤ (n1 : Int) := by omega
    have hn11 : (n1 : Int) < (x.p.size : Int) := by omega
    have hwr : IntKind.i64.wrap (n1 : Int) = (n1 : Int) := IntWalk.i64_in _ ⟨by omega, by omega⟩
    clear hn1 hs1
    go_enter Try.func39, Try.ntmps39
    go_wp2_with fail
    have hP := Lib.hid (after_pre w A k x mo la ne)
    generalize ((w.alloc (.cells #[.string x.p, .slice A x.c.length k, .int .u8 x.l, .int .u8 x.r, .int .i64 x.f, .int .i64 x.t] 55)).alloc (.cells #[.int .i64 mo, .int .i64 la, .int .u8 ne] 26)).alloc (.cells #[.int .i64 0, .int .i64 0, .int .u8 0] 26) = V at *
    obtain ⟨q, hq⟩ : ∃ q, w.heap.size = q := ⟨_, rfl⟩
    obtain ⟨hA, hZ, hBV⟩ := hP.out
    rw [hq] at hA hZ
    simp only [hq]
    have hqV := Blk.lt hA
    have hzV := Blk.lt hZ
    have x0 := hA.cell 0
    have x3 := hA.cell 3
    have x5 := hA.cell 5
    simp only [List.getElem?_toArray, List.getElem?_cons_zero, List.getElem?_cons_succ] at x0 x3 x5
    refine wp_region_head 13 0 (by kernel_rfl) (fun y => .agg #[.string x.p, .slice A x.c.length k, .int .u8 x.l, .int .u8 x.r, .int .i64 x.f, .int .i64 x.t] :: .agg #[.int .i64 mo, .int .i64 la, .int .u8 ne] :: .pointer (some ⟨q, 0, none⟩) :: .pointer (some ⟨q + 1, 0, none⟩) :: .pointer (some ⟨q + 1 + 1, 0, none⟩) :: .pointer (some ⟨q, 0, none⟩) :: .string x.p :: .bool false :: undef :: undef :: undef :: undef :: undef :: undef :: undef :: undef :: undef :: undef :: y 0 :: y 1 :: y 2 :: y 3 :: y 4 :: y 5 :: y 6 :: y 7 :: y 8 :: y 9 :: y 10 :: y 11 :: y 12 :: [])
      (fun _ w' => Below V.heap.size V w') (phiAf q x n1) (fun _ => undef)
      (by kernel_rfl) (by kernel_rfl) (by kernel_rfl) (by kernel_rfl) ?_ (Below.refl _ _).drew [0, 1, 2, 3, 4, 5, 6, 7, 8, 9, 10, 11, 12] (by kernel_rfl) ?_ ?_
    · intro j v w1 w2 h hb
      exact h
    · refine allCons ?_ (allCons ?_ (allCons ?_ (allCons ?_ (allCons ?_ (allCons ?_ (allCons ?_ (allCons ?_ (allCons ?_ (allCons ?_ (allCons ?_ (allCons ?_ (allCons ?_ allNil))))))))))))
      all_goals intro y w10 K hS hd hK
      · refine wpOp_step rfl (fun K2 hK2 => ?_)
        go_simp
        exact hK2 _ _ (hK _ _ hS rfl (Below.refl _ _))
      · have e0 : y 0 = _ := hd 0 rfl
        obtain ⟨y, rfl⟩ := upd_at (y := y) (i := 0) e0
        dsimp [upd]
        have cc := (hS.cell (p := ⟨q, 5, none⟩) (by show q < _; omega)).trans x5
        refine wpOp_step rfl (fun K2 hK2 => ?_)
        go_simp
        exact hK2 _ _ (hK _ _ hS rfl (Below.refl _ _))
      · refine wpOp_step rfl (fun K2 hK2 => ?_)
        go_simp
        exact hK2 _ _ (hK _ _ hS rfl (Below.refl _ _))
      · have e2 : y 2 = _ := hd 2 rfl
        obtain ⟨y, rfl⟩ := upd_at (y := y) (i := 2) e2
        dsimp [upd]
        have cc := (hS.cell (p := ⟨q, 0, none⟩) (by show q < _; omega)).trans x0
        refine wpOp_step rfl (fun K2 hK2 => ?_)
        go_simp
        exact hK2 _ _ (hK _ _ hS rfl (Below.refl _ _))
      · refine wpOp_step rfl (fun K2 hK2 => ?_)
        go_simp
        exact hK2 _ _ (hK _ _ hS rfl (Below.refl _ _))
      · have e4 : y 4 = _ := hd 4 rfl
        obtain ⟨y, rfl⟩ := upd_at (y := y) (i := 4) e4
        dsimp [upd]
        have cc := (hS.cell (p := ⟨q, 0, none⟩) (by show q < _; omega)).trans x0
        refine wpOp_step rfl (fun K2 hK2 => ?_)
        go_simp
        exact hK2 _ _ (hK _ _ hS rfl (Below.refl _ _))
      · have e5 : y 5 = _ := hd 5 rfl
        obtain ⟨y, rfl⟩ := upd_at (y := y) (i := 5) e5
        dsimp [upd]
        refine wpOp_step rfl (fun K2 hK2 => ?_)
        go_simp
        exact hK2 _ _ (hK _ _ hS rfl (Below.refl _ _))
      · have e6 : y 6 = _ := hd 6 rfl
        obtain ⟨y, rfl⟩ := upd_at (y := y) (i := 6) e6
        dsimp [upd]
        refine wpOp_step rfl (fun K2 hK2 => ?_)
        go_simp
        exact hK2 _ _ (hK _ _ hS rfl (Below.refl _ _))
      · have e3 : y 3 = _ := hd 3 rfl
        have e7 : y 7 = _ := hd 7 rfl
        obtain ⟨y, rfl⟩ := upd_at (y := y) (i := 3) e3
        obtain ⟨y, rfl⟩ := upd_at (y := y) (i := 7) e7
        dsimp [upd]
        refine wpOp_step rfl (fun K2 hK2 => ?_)
        go_simp
        exact hK2 _ _ (hK _ _ hS rfl (Below.refl _ _))
      · have e8 : y 8 = _ := hd 8 rfl
        obtain ⟨y, rfl⟩ := upd_at (y := y) (i := 8) e8
        dsimp [upd]
        refine wpOp_step rfl (fun K2 hK2 => ?_)
        go_simp
        refine (class_any _ hb0.1 hb0.2 _).mono ?_
        rintro e w1 ⟨rfl, rfl⟩
        exact hK2 _ _ (hK _ _ hS rfl (Below.refl _ _))
      · refine wpOp_step rfl (fun K2 hK2 => ?_)
        go_simp
        exact hK2 _ _ (hK _ _ hS rfl (Below.refl _ _))
      · have e10 : y 10 = _ := hd 10 rfl
        obtain ⟨y, rfl⟩ := upd_at (y := y) (i := 10) e10
        dsimp [upd]
        have cc := (hS.cell (p := ⟨q, 3, none⟩) (by show q < _; omega)).trans x3
        refine wpOp_step rfl (fun K2 hK2 => ?_)
        go_simp
        exact hK2 _ _ (hK _ _ hS rfl (Below.refl _ _))
      · have e1 : y 1 = _ := hd 1 rfl
        have e9 : y 9 = _ := hd 9 rfl
        have e11 : y 11 = _ := hd 11 rfl
        obtain ⟨y, rfl⟩ := upd_at (y := y) (i := 1) e1
        obtain ⟨y, rfl⟩ := upd_at (y := y) (i := 9) e9
        obtain ⟨y, rfl⟩ := upd_at (y := y) (i := 11) e11
        dsimp [upd]
        refine wpOp_step rfl (fun K2 hK2 => ?_)
        go_simp
        exact hK2 _ _ (hK _ _ hS rfl (Below.refl _ _))
    · intro y w10 f hS hd
      have e12 : y 12 = _ := hd 12 (by decide)
      clear hd
      obtain ⟨y, rfl⟩ := upd_at (y := y) (i := 12) e12
      dsimp [upd]
      have hZ2 := hZ.keep hS (by omega)
      have z0 := hZ2.cell 0
      have z1 := hZ2.cell 1
      have z2 := hZ2.cell 2
      have f0 := hZ2.free 0
      have f1 := hZ2.free 1
      have f2 := hZ2.free 2
      simp only [List.getElem?_toArray, List.getElem?_cons_zero, List.getElem?_cons_succ] at z0 z1 z2
      refine wpAny_one (i := 13) (by kernel_rfl) ?_
      refine wpOp_step rfl (fun K2 hK2 => ?_)
      go_simp
      refine hK2 _ _ ?_
      clear hK2 K2
      refine wpAny_done (by kernel_rfl) ?_ _
      have hE := st_end (q := q + 1 + 1) (hBV.trans (hS.mono (by omega))) (by omega) x.t (clsI (byteI x.p n1)) x.r
      go_wp2_with fail
      refine bodyPost_ret (v := .agg #[.int .i64 x.t, .int .i64 (clsI (byteI x.p n1)), .int .u8 x.r]) (by simp [results, Try.results39, go_sem, z0, z1, z2]) rfl ⟨rfl, ?_⟩
      first | exact hE | (rw [← hq]; exact hE) | (rw [hq] at hE; exact hE)
end Go.Proofs.Ytiedaongfjcbhaa
