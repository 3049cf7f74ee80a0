/- Merged by program: Make8 -/
import Derived.Test.YtpkdlljefkbmpaaQ6
import Derived.BigRegion
import Derived.Deep.CutBlock
import Derived.Deep.CutRange
import Derived.Deep.LoopGhost
import Derived.Deep.RegionLaw

/-! Reference of the tables: Rule. -/
namespace Go.Proofs.Ytpkdlljefkbmpaa
open Go.RowKit
def PreR (w V : World) (A C : Option Addr) (np kp nc kc : Nat) (l r u0 u1 : Int) : Prop :=
 Blk V w.heap.size 103 #[.slice A np kp, .slice C nc kc, .int .u8 l, .int .u8 r, .int .u8 u0, .int .u8 u1] ∧ Blk V (w.heap.size + 1) 99 #[.string ⟨#[]⟩, .slice none 0 0, .int .u8 0, .int .u8 0, .int .i64 0, .int .i64 0] ∧ Blk V (w.heap.size + 1 + 1) 5 #[.int .u8 63, .int .u8 63, .int .u8 2, .int .u8 8, .int .u8 17, .int .u8 62, .int .u8 4, .int .u8 1] ∧ Below w.heap.size w V ∧ V.heap.size = w.heap.size + 3
theorem preR_of (w : World) (A C : Option Addr) (np kp nc kc : Nat) (l r u0 u1 : Int) :
  PreR w (((w.alloc (.cells #[.slice A np kp, .slice C nc kc, .int .u8 l, .int .u8 r, .int .u8 u0, .int .u8 u1] 103)).alloc (.cells #[.string ⟨#[]⟩, .slice none 0 0, .int .u8 0, .int .u8 0, .int .i64 0, .int .i64 0] 99)).alloc (.cells #[.int .u8 63, .int .u8 63, .int .u8 2, .int .u8 8, .int .u8 17, .int .u8 62, .int .u8 4, .int .u8 1] 5)) A C np kp nc kc l r u0 u1 := by
 have k0 := below_box w #[.slice A np kp, .slice C nc kc, .int .u8 l, .int .u8 r, .int .u8 u0, .int .u8 u1] 103
 have n0 := Blk.new w #[.slice A np kp, .slice C nc kc, .int .u8 l, .int .u8 r, .int .u8 u0, .int .u8 u1] 103
 have s0 : (w.alloc (.cells #[.slice A np kp, .slice C nc kc, .int .u8 l, .int .u8 r, .int .u8 u0, .int .u8 u1] 103)).heap.size = w.heap.size + 1 := by simp
 generalize w.alloc (.cells #[.slice A np kp, .slice C nc kc, .int .u8 l, .int .u8 r, .int .u8 u0, .int .u8 u1] 103) = w1 at *
 have k1 := below_box w1 #[.string ⟨#[]⟩, .slice none 0 0, .int .u8 0, .int .u8 0, .int .i64 0, .int .i64 0] 99
 have n1 := Blk.new w1 #[.string ⟨#[]⟩, .slice none 0 0, .int .u8 0, .int .u8 0, .int .i64 0, .int .i64 0] 99
 have s1 : (w1.alloc (.cells #[.string ⟨#[]⟩, .slice none 0 0, .int .u8 0, .int .u8 0, .int .i64 0, .int .i64 0] 99)).heap.size = w1.heap.size + 1 := by simp
 generalize w1.alloc (.cells #[.string ⟨#[]⟩, .slice none 0 0, .int .u8 0, .int .u8 0, .int .i64 0, .int .i64 0] 99) = w2 at *
 have k2 := below_box w2 #[.int .u8 63, .int .u8 63, .int .u8 2, .int .u8 8, .int .u8 17, .int .u8 62, .int .u8 4, .int .u8 1] 5
 have n2 := Blk.new w2 #[.int .u8 63, .int .u8 63, .int .u8 2, .int .u8 8, .int .u8 17, .int .u8 62, .int .u8 4, .int .u8 1] 5
 have s2 : (w2.alloc (.cells #[.int .u8 63, .int .u8 63, .int .u8 2, .int .u8 8, .int .u8 17, .int .u8 62, .int .u8 4, .int .u8 1] 5)).heap.size = w2.heap.size + 1 := by simp
 generalize w2.alloc (.cells #[.int .u8 63, .int .u8 63, .int .u8 2, .int .u8 8, .int .u8 17, .int .u8 62, .int .u8 4, .int .u8 1] 5) = w3 at *
 rw [s0] at n1
 rw [s1, s0] at n2
 exact ⟨(n0.keep k1 (by omega)).keep k2 (by omega), n1.keep k2 (by omega), n2, below_next (below_next k0 k1) k2, by omega⟩
abbrev cells8 : Array Value := #[.int .u8 1, .int .u8 3, .int .u8 9, .int .u8 5, .int .u8 7, .int .u8 32, .int .u8 44, .int .u8 60]
theorem cells8_at {V : World} {g : Nat} {t : TypeId} (h : Blk V g t cells8) (j : Nat) (hj : j < 8) : ∃ z : Int, (0 ≤ z ∧ z < 256) ∧ V.cell? ⟨g, j, none⟩ = some (.int .u8 z) := by
 have := h.cell j
 rcases (by omega : j = 0 ∨ j = 1 ∨ j = 2 ∨ j = 3 ∨ j = 4 ∨ j = 5 ∨ j = 6 ∨ j = 7) with rfl | rfl | rfl | rfl | rfl | rfl | rfl | rfl
 all_goals exact ⟨_, by decide, this⟩
theorem own_form {w : World} {base size n : Nat} {e : TypeId} {v : Value} {xs : List Value} (h : w.ownsRow base e size v n xs) : ∃ A k, v = .slice A n k := by
 rcases h.2 with ⟨rfl, h0⟩ | ⟨g, cap, cur, rfl, _⟩
 ·
  exact ⟨_, _, by rw [h0]⟩
 ·
  exact ⟨_, _, rfl⟩
theorem masks_at {V : World} {g : Nat} {t : TypeId} (h : Blk V g t #[.int .u8 63, .int .u8 63, .int .u8 2, .int .u8 8, .int .u8 17, .int .u8 62, .int .u8 4, .int .u8 1]) (j : Nat) (hj : j < 8) : ∃ z : Int, (0 ≤ z ∧ z < 256) ∧ V.cell? ⟨g, j, none⟩ = some (.int .u8 z) := by
 have := h.cell j
 rcases (by omega : j = 0 ∨ j = 1 ∨ j = 2 ∨ j = 3 ∨ j = 4 ∨ j = 5 ∨ j = 6 ∨ j = 7) with rfl | rfl | rfl | rfl | rfl | rfl | rfl | rfl
 all_goals exact ⟨_, by decide, this⟩
set_option maxRecDepth 10000 in
set_option maxHeartbeats 2000000 in
theorem rule_any (w : World) (A C : Option Addr) (np nc kp kc : Nat) (ps cs : List Int) (l r u0 u1 m : Int) (hp : ps.length = np) (hc : cs.length = nc) (hP : Seq w w.heap.size A ps) (hC : Seq w w.heap.size C cs)
  (hl : 0 ≤ l ∧ l < 256) (hr : 0 ≤ r ∧ r < 256) (h0 : 0 ≤ u0 ∧ u0 < 256) (h1 : 0 ≤ u1 ∧ u1 < 256) (hm : 1 ≤ m ∧ m ≤ 2) (hpz : ∀ z ∈ ps, 0 ≤ z ∧ z < 256) (hcz : ∀ z ∈ cs, 0 ≤ z ∧ z < 256) :
  Calls Try.prog 52 #[.agg #[.slice A np kp, .slice C nc kc, .int .u8 l, .int .u8 r, .int .u8 u0, .int .u8 u1], .int .i64 m] w fun e w' => ∃ v x, e = .returned v ∧ IsRule w.heap.size x v w' ∧ x.fits ∧ x.p.size ≤ 3 ∧ x.c.length ≤ 3 ∧ Below w.heap.size w w' := by
 have HP := Lib.hid hP
 have HC := Lib.hid hC
 have HPZ := Lib.hid hpz
 have HCZ := Lib.hid hcz
 have HPN := Lib.hid hp
 have HCN := Lib.hid hc
 clear hP hC hpz hcz hp hc
 go_enter Try.func52, Try.ntmps52
 go_wp2_with fail
 have PR := Lib.hid (preR_of w A C np kp nc kc l r u0 u1)
 generalize ((w.alloc (.cells #[.slice A np kp, .slice C nc kc, .int .u8 l, .int .u8 r, .int .u8 u0, .int .u8 u1] 103)).alloc (.cells #[.string ⟨#[]⟩, .slice none 0 0, .int .u8 0, .int .u8 0, .int .i64 0, .int .i64 0] 99)).alloc (.cells #[.int .u8 63, .int .u8 63, .int .u8 2, .int .u8 8, .int .u8 17, .int .u8 62, .int .u8 4, .int .u8 1] 5) = V at *
 obtain ⟨g, hg⟩ : ∃ g, w.heap.size = g := ⟨_, rfl⟩
 go_cut [7] from 13 to 37 (fun s7 wx => s7 = .pointer (some ⟨w.heap.size + 3, 0, none⟩) ∧ ∃ ml mr fm tm : Int, (0 ≤ ml ∧ ml < 256) ∧ (0 ≤ mr ∧ mr < 256) ∧ (0 ≤ fm ∧ fm < m) ∧ (0 ≤ tm ∧ tm < m) ∧ Blk wx w.heap.size 103 #[.slice A np kp, .slice C nc kc, .int .u8 l, .int .u8 r, .int .u8 u0, .int .u8 u1] ∧ Blk wx (w.heap.size + 1) 99 #[.string ⟨#[]⟩, .slice none 0 0, .int .u8 0, .int .u8 0, .int .i64 0, .int .i64 0] ∧ Blk wx (w.heap.size + 3) 99 #[.string ⟨#[]⟩, .slice none 0 0, .int .u8 ml, .int .u8 mr, .int .i64 fm, .int .i64 tm] ∧ Below w.heap.size w wx)
 case first =>
  subst hg
  obtain ⟨jl, hjl, hjl8⟩ : ∃ j : Nat, l % 8 = (j : Int) ∧ j < 8 := ⟨(l % 8).toNat, by omega, by omega⟩
  obtain ⟨jr, hjr, hjr8⟩ : ∃ j : Nat, r % 8 = (j : Int) ∧ j < 8 := ⟨(r % 8).toNat, by omega, by omega⟩
  obtain ⟨ml, hml, cml⟩ := masks_at PR.out.2.2.1 jl hjl8
  obtain ⟨mr, hmr, cmr⟩ := masks_at PR.out.2.2.1 jr hjr8
  have a2 := PR.out.1.cell 2
  have a3 := PR.out.1.cell 3
  have a4 := PR.out.1.cell 4
  have a5 := PR.out.1.cell 5
  simp only [List.getElem?_toArray, List.getElem?_cons_zero, List.getElem?_cons_succ] at a2 a3 a4 a5
  have hm0 : m ≠ 0 := by omega
  have hVs : V.heap.size = w.heap.size + 3 := PR.out.2.2.2.2
  have hlt0 : w.heap.size < V.heap.size := by omega
  have hlt2 : w.heap.size + 1 + 1 < V.heap.size := by omega
  go_upto_region 2 with fail
  go_region
  go_wp2_with fail
  go_meet
  have hb0 : 0 ≤ u0 % m ∧ u0 % m < m := ⟨Int.emod_nonneg _ hm0, Int.emod_lt_of_pos _ (by omega)⟩
  have hb1 : 0 ≤ u1 % m ∧ u1 % m < m := ⟨Int.emod_nonneg _ hm0, Int.emod_lt_of_pos _ (by omega)⟩
  refine ⟨rfl, ml, mr, u0 % m, u1 % m, hml, hmr, hb0, hb1, Blk.box PR.out.1, Blk.box PR.out.2.1, ?_, (PR.out.2.2.2.1.alloc PR.out.2.2.2.1.size _).drew⟩
  rw [← hVs]; exact Blk.new _ _ _
 case rest =>
  obtain ⟨rfl, ml, mr, fm, tm, hml, hmr, hfm, htm, hA, hR, hO, hBW⟩ := hcut
  clear PR
  simp only [hg] at hA hR hO hBW HP HC ⊢
  have HA := Lib.hid hA
  have HR := Lib.hid hR
  have HO := Lib.hid hO
  have HB := Lib.hid hBW
  clear hA hR hO hBW
  go_upto_block 0 with fail
  go_cut [8, 9] from 38 to 64 (fun _ _ wx => ∃ s : ByteArray, s.size ≤ 3 ∧ Blk wx g 103 #[.slice A np kp, .slice C nc kc, .int .u8 l, .int .u8 r, .int .u8 u0, .int .u8 u1] ∧ Blk wx (g + 1) 99 #[.string ⟨#[]⟩, .slice none 0 0, .int .u8 0, .int .u8 0, .int .i64 0, .int .i64 0] ∧ Blk wx (g + 3) 99 #[.string s, .slice none 0 0, .int .u8 ml, .int .u8 mr, .int .i64 fm, .int .i64 tm] ∧ Below g w wx)
  case first =>
   go_wp2_with fail
   go_loopg [8, 9] 3 (fun gk s8 s9 wx => ∃ (j : Nat) (s : ByteArray), j ≤ 3 ∧ j ≤ np ∧ gk = 3 - j ∧ s8 = .int .i64 j ∧ s.size ≤ j ∧ Blk wx g 103 #[.slice A np kp, .slice C nc kc, .int .u8 l, .int .u8 r, .int .u8 u0, .int .u8 u1] ∧ Blk wx (g + 1) 99 #[.string ⟨#[]⟩, .slice none 0 0, .int .u8 0, .int .u8 0, .int .i64 0, .int .i64 0] ∧ Blk wx (g + 3) 99 #[.string s, .slice none 0 0, .int .u8 ml, .int .u8 mr, .int .i64 fm, .int .i64 tm] ∧ Below g w wx)
   case atStart => exact ⟨0, ⟨#[]⟩, by omega, by omega, by omega, rfl, Nat.le_refl _, HA.out, HR.out, HO.out, HB.out⟩
   case round =>
    obtain ⟨j, s, hj3, hjn, rfl, rfl, hsj, hA1, hR1, hO1, hB1⟩ := hrel
    have HA1 := Lib.hid hA1
    have HR1 := Lib.hid hR1
    have HO1 := Lib.hid hO1
    have HB1 := Lib.hid hB1
    have a0 := hA1.cell 0
    have o0 := hO1.cell 0
    have of0 := hO1.free 0
    simp only [List.getElem?_toArray, List.getElem?_cons_zero] at a0 o0
    clear hA1 hR1 hO1 hB1
    by_cases hlt : j < np
    ·
     have hlt' : (j : Int) < (np : Int) := by omega
     by_cases h3 : j < 3
     ·
      have h3' : (j : Int) < 3 := by omega
      obtain ⟨b, o, rfl, hbg, hcell⟩ := HP.out (by have := HPN.out; omega)
      have hps : j < ps.length := by have := HPN.out; omega
      have hc := (HB1.out.cell (p := ⟨b, o + j, none⟩) (by show b < g; omega)).trans (hcell j hps)
      have hz := HPZ.out _ (List.getElem_mem hps)
      generalize ps[j] = z at *
      obtain ⟨q, hq, hq9⟩ : ∃ q : Nat, z % 9 = (q : Int) ∧ q < 9 := ⟨(z % 9).toNat, by omega, by omega⟩
      have hq10 : (q : Int) + 1 ≤ 9 := by omega
      have hsz9 : (⟨#[97, 98, 99, 65, 66, 49, 50, 45, 46]⟩ : ByteArray).size = 9 := rfl
      clear hcell
      go_wp2_with fail
      go_region
      go_wp2_with fail
      go_roundg (3 - (j + 1))
      case measure => omega
      case rel =>
       refine ⟨j + 1, s ++ (⟨#[97, 98, 99, 65, 66, 49, 50, 45, 46]⟩ : ByteArray).extract q (q + 1), by omega, by omega, rfl, by go_num, by rw [ByteArray.size_append, ByteArray.size_extract]; omega, ?_, ?_, ?_, ?_⟩
       ·
        exact (Below.heap_setCell _ _ _ _ (by show g ≠ g + 3; omega)).trans HA1.out
       ·
        exact (Below.heap_setCell _ _ _ _ (by show g + 1 ≠ g + 3; omega)).trans HR1.out
       ·
        exact HO1.out.set 0 _
       ·
        exact (HB1.out.setCell (by show g ≤ g + 3; omega) _).drew
     ·
      have h3' : ¬ (j : Int) < 3 := by omega
      go_wp2
      go_meet
      exact ⟨s, by omega, HA1.out, HR1.out, HO1.out, HB1.out⟩
    ·
     have hlt' : ¬ (j : Int) < (np : Int) := by omega
     go_wp2
     go_meet
     exact ⟨s, by omega, HA1.out, HR1.out, HO1.out, HB1.out⟩
  case rest =>
   obtain ⟨s, hs3, hA, hR, hO, hB⟩ := hcut
   clear HA HR HO HB
   have HA := Lib.hid hA
   have HR := Lib.hid hR
   have HO := Lib.hid hO
   have HB := Lib.hid hB
   clear hA hR hO hB
   obtain ⟨gC, hgC⟩ : ∃ q, wc.heap.size = q := ⟨_, rfl⟩
   have hX : Hid (Below wc.heap.size wc (wc.alloc (.cells cells8 96))) := below_box _ _ _
   have XC : Hid (Blk (wc.alloc (.cells cells8 96)) gC 96 cells8) := by unfold Hid; rw [← hgC]; exact Blk.new _ _ _
   have XA : Hid (Blk (wc.alloc (.cells cells8 96)) g 103 #[.slice A np kp, .slice C nc kc, .int .u8 l, .int .u8 r, .int .u8 u0, .int .u8 u1]) := HA.out.box
   have XO : Hid (Blk (wc.alloc (.cells cells8 96)) (g + 3) 99 #[.string s, .slice none 0 0, .int .u8 ml, .int .u8 mr, .int .i64 fm, .int .i64 tm]) := HO.out.box
   have XR : Hid (Blk (wc.alloc (.cells cells8 96)) (g + 1) 99 #[.string ⟨#[]⟩, .slice none 0 0, .int .u8 0, .int .u8 0, .int .i64 0, .int .i64 0]) := HR.out.box
   have XB : Hid (Below g w (wc.alloc (.cells cells8 96))) := by unfold Hid; rw [← hg] at HB ⊢; exact HB.out.alloc HB.out.size _
   obtain ⟨jc, hjc, hjc8⟩ : ∃ j : Nat, l / 8 % 8 = (j : Int) ∧ j < 8 := ⟨(l / 8 % 8).toNat, by omega, by omega⟩
   obtain ⟨z0, hz0, cz0⟩ := cells8_at XC.out jc hjc8
   have x2 := XA.out.cell 2
   have xo1 := (XO.out.box (vs := #[.int .u8 z0]) (e := 96)).cell 1
   have xf1 := (XO.out.box (vs := #[.int .u8 z0]) (e := 96)).free 1
   simp only [List.getElem?_toArray, List.getElem?_cons_zero, List.getElem?_cons_succ] at x2 xo1
   have hne3 : g + 3 ≠ gC := by have := Blk.lt HO.out; omega
   go_upto_block 2 with fail
   have hC1 : (wc.alloc (.cells cells8 96)).heap.size = gC + 1 := by rw [← hgC]; simp
   have YA : Hid (Blk (((wc.alloc (.cells cells8 96)).alloc (.cells #[.int .u8 z0] 96)).setCell ⟨g + 3, 1, none⟩ (.slice (some ⟨gC + 1, 0, none⟩) 1 1)) g 103 #[.slice A np kp, .slice C nc kc, .int .u8 l, .int .u8 r, .int .u8 u0, .int .u8 u1]) := (Below.heap_setCell _ _ _ _ (by show g ≠ g + 3; omega)).trans XA.out.box
   have YR : Hid (Blk (((wc.alloc (.cells cells8 96)).alloc (.cells #[.int .u8 z0] 96)).setCell ⟨g + 3, 1, none⟩ (.slice (some ⟨gC + 1, 0, none⟩) 1 1)) (g + 1) 99 #[.string ⟨#[]⟩, .slice none 0 0, .int .u8 0, .int .u8 0, .int .i64 0, .int .i64 0]) := (Below.heap_setCell _ _ _ _ (by show g + 1 ≠ g + 3; omega)).trans XR.out.box
   have YC : Hid (Blk (((wc.alloc (.cells cells8 96)).alloc (.cells #[.int .u8 z0] 96)).setCell ⟨g + 3, 1, none⟩ (.slice (some ⟨gC + 1, 0, none⟩) 1 1)) gC 96 cells8) := (Below.heap_setCell _ _ _ _ hne3.symm).trans XC.out.box
   have YO : Hid (Blk (((wc.alloc (.cells cells8 96)).alloc (.cells #[.int .u8 z0] 96)).setCell ⟨g + 3, 1, none⟩ (.slice (some ⟨gC + 1, 0, none⟩) 1 1)) (g + 3) 99 #[.string s, .slice (some ⟨gC + 1, 0, none⟩) 1 1, .int .u8 ml, .int .u8 mr, .int .i64 fm, .int .i64 tm]) := XO.out.box.set 1 _
   have YW : Hid (World.ownsRow (((wc.alloc (.cells cells8 96)).alloc (.cells #[.int .u8 z0] 96)).setCell ⟨g + 3, 1, none⟩ (.slice (some ⟨gC + 1, 0, none⟩) 1 1)) (gC + 1) 96 1 (.slice (some ⟨gC + 1, 0, none⟩) 1 1) 1 ([z0].map (Value.int .u8))) := by
    refine own_set (t := 99) ?_ XO.out.box (by decide) _
    rw [← hC1]
    exact World.ownsRow_lit _ #[.int .u8 z0] 1 (Nat.le_refl _) (by decide) rfl
   have YB : Hid (Below g w (((wc.alloc (.cells cells8 96)).alloc (.cells #[.int .u8 z0] 96)).setCell ⟨g + 3, 1, none⟩ (.slice (some ⟨gC + 1, 0, none⟩) 1 1))) := by
    refine Below.setCell ?_ (by show g ≤ g + 3; omega) _
    refine XB.out.alloc ?_ _
    rw [hC1]; have := Blk.lt HA.out; omega
   generalize (((wc.alloc (.cells cells8 96)).alloc (.cells #[.int .u8 z0] 96)).setCell ⟨g + 3, 1, none⟩ (.slice (some ⟨gC + 1, 0, none⟩) 1 1)) = Y at *
   clear XA XR XC XO XB hX x2 xo1 xf1 cz0 hjc
   have hgg : g < gC := by have := Blk.lt HA.out; omega
   have hz0' : ∀ z ∈ [z0], 0 ≤ z ∧ z < 256 := fun z hz => by rw [List.mem_singleton.1 hz]; exact hz0
   go_cut [11] from 75 to 99 (fun _ wx => ∃ (v : Value) (cs' : List Int), cs'.length ≤ 3 ∧ (∀ z ∈ cs', 0 ≤ z ∧ z < 256) ∧ Blk wx (g + 1) 99 #[.string ⟨#[]⟩, .slice none 0 0, .int .u8 0, .int .u8 0, .int .i64 0, .int .i64 0] ∧ Blk wx (g + 3) 99 #[.string s, v, .int .u8 ml, .int .u8 mr, .int .i64 fm, .int .i64 tm] ∧ wx.ownsRow (gC + 1) 96 1 v cs'.length (cs'.map (Value.int .u8)) ∧ Below g w wx)
   case first =>
    go_wp2_with fail
    go_loopg [11] 2 (fun gk s11 wx => ∃ (j : Nat) (v : Value) (cs' : List Int), j ≤ 2 ∧ j ≤ nc ∧ gk = 2 - j ∧ s11 = .int .i64 j ∧ cs'.length = j + 1 ∧ (∀ z ∈ cs', 0 ≤ z ∧ z < 256) ∧ Blk wx g 103 #[.slice A np kp, .slice C nc kc, .int .u8 l, .int .u8 r, .int .u8 u0, .int .u8 u1] ∧ Blk wx (g + 1) 99 #[.string ⟨#[]⟩, .slice none 0 0, .int .u8 0, .int .u8 0, .int .i64 0, .int .i64 0] ∧ Blk wx gC 96 cells8 ∧ Blk wx (g + 3) 99 #[.string s, v, .int .u8 ml, .int .u8 mr, .int .i64 fm, .int .i64 tm] ∧ wx.ownsRow (gC + 1) 96 1 v cs'.length (cs'.map (Value.int .u8)) ∧ Below g w wx)
    case atStart => exact ⟨0, _, [z0], by omega, by omega, by omega, rfl, rfl, hz0', YA.out, YR.out, YC.out, YO.out, YW.out, YB.out⟩
    case round =>
     obtain ⟨j, v, cs', hj2, hjn, rfl, rfl, hcl, hcz, hA1, hR1, hC1', hO1, hW1, hB1⟩ := hrel
     clear YA YR YC YO YW YB HA HR HO HB
     have HA1 := Lib.hid hA1
     have HR1 := Lib.hid hR1
     have HC1 := Lib.hid hC1'
     have HO1 := Lib.hid hO1
     have HW1 := Lib.hid hW1
     have HB1 := Lib.hid hB1
     have HCZ1 := Lib.hid hcz
     have a1 := hA1.cell 1
     simp only [List.getElem?_toArray, List.getElem?_cons_zero, List.getElem?_cons_succ] at a1
     clear hA1 hR1 hC1' hO1 hW1 hB1 hcz
     by_cases hlt : j < nc
     ·
      have hlt' : (j : Int) < (nc : Int) := by omega
      by_cases h3 : j < 2
      ·
       have h3' : (j : Int) < 2 := by omega
       obtain ⟨b, o, rfl, hbg, hcell⟩ := HC.out (by have := HCN.out; omega)
       have hps : j < cs.length := by have := HCN.out; omega
       have hc := (HB1.out.cell (p := ⟨b, o + j, none⟩) (by show b < g; omega)).trans (hcell j hps)
       have hz := HCZ.out _ (List.getElem_mem hps)
       generalize cs[j] = z at *
       obtain ⟨q, hq, hq8⟩ : ∃ q : Nat, z % 8 = (q : Int) ∧ q < 8 := ⟨(z % 8).toNat, by omega, by omega⟩
       obtain ⟨z1, hz1, cz1⟩ := cells8_at HC1.out q hq8
       have o1 := HO1.out.cell 1
       have of1 := HO1.out.free 1
       simp only [List.getElem?_toArray, List.getElem?_cons_zero, List.getElem?_cons_succ] at o1
       clear hcell
       have hq8' : (q : Int) < 8 := by omega
       have hqt : z.tmod 8 = (q : Int) := by rw [Int.tmod_eq_emod_of_nonneg hz.1]; exact hq
       obtain ⟨i0, hi, hy0, hy1, hy2⟩ := info_parts info_cell
       have s1 := Lib.hid ((HW1.out.alloc (.cells #[.int .u8 z1] 96)).drew)
       have s2 := Lib.hid (show gC + 1 ≤ (wr.alloc (.cells #[.int .u8 z1] 96)).drew.heap.size by
        have := Blk.lt HC1.out
        have h2 : (wr.alloc (.cells #[.int .u8 z1] 96)).drew.heap.size = wr.heap.size + 1 := by simp
        omega)
       have s3 : Hid (Blk (wr.alloc (.cells #[.int .u8 z1] 96)).drew (g + 3) 99 #[.string s, v, .int .u8 ml, .int .u8 mr, .int .i64 fm, .int .i64 tm]) := HO1.out.box
       have o1a := s3.out.cell 1
       simp only [List.getElem?_toArray, List.getElem?_cons_zero, List.getElem?_cons_succ] at o1a
       go_wp2_with fail
       go_region_law (refine step_append_own rfl (.tmp 87) (.tmp 97) 32 rfl (gC + 1) 96 i0 (.int .u8 0) 1 1 Try.underlying32 hi hy0 hy1 hy2 rfl (by decide) v cs'.length (cs'.map (Value.int .u8)) (by simp [Act.eval]) s1.out ⟨wr.heap.size, 0, none⟩ 1 1 [.int .u8 z1] (by simp [Act.eval]) rfl (cell_one_new _ _ _) (ints_oneCell .u8 [z1]) (by unfold maxLen; omega) (by omega) s2.out ?_; intro v' w' h1' h2'; obtain ⟨A9, k9, rfl⟩ := own_form h1'; have o9 := Lib.hid (Blk.row s1.out h2' s3.out (by decide)); have c9 := o9.out.cell 1; have f9 := o9.out.free 1; simp only [List.getElem?_toArray, List.getElem?_cons_zero, List.getElem?_cons_succ] at c9)
       all_goals
        go_wp2_with fail
        go_roundg (2 - (j + 1))
        case measure => omega
        case rel =>
         have B9 : Hid (Below g w (wr.alloc (.cells #[.int .u8 z1] 96)).drew) := (HB1.out.alloc (by have := Blk.lt HA1.out; omega) _).drew
         have B10 : Below g w w' := B9.out.grown h2' (by have := s2.out; omega) (fun k hk => by have := (s1.out.lt k hk).1; omega)
         refine ⟨j + 1, .slice A9 (j + 1 + 1) k9, cs' ++ [z1], by omega, by omega, rfl, by go_num, by rw [List.length_append, hcl]; rfl, ?_, ?_, ?_, ?_, ?_, ?_, ?_⟩
         ·
          intro q9 hq9
          rcases List.mem_append.1 hq9 with h | h
          ·
           exact HCZ1.out q9 h
          ·
           rw [List.mem_singleton.1 h]; exact hz1
         ·
          exact (Below.heap_setCell _ _ _ _ (by show g ≠ g + 3; omega)).trans (Blk.row (w := (wr.alloc (.cells #[.int .u8 z1] 96)).drew) s1.out h2' HA1.out.box (by decide))
         ·
          exact (Below.heap_setCell _ _ _ _ (by show g + 1 ≠ g + 3; omega)).trans (Blk.row (w := (wr.alloc (.cells #[.int .u8 z1] 96)).drew) s1.out h2' HR1.out.box (by decide))
         ·
          refine (Below.heap_setCell _ _ _ _ hne3.symm).trans ((h2'.block gC ?_ ?_).trans HC1.out.box)
          ·
           have := s2.out; omega
          ·
           intro e; have := (s1.out.lt gC e.symm).1; omega
         ·
          exact o9.out.set 1 _
         ·
          refine own_set (t := 99) ?_ o9.out (by decide) _
          have hl9 : (cs' ++ [z1]).length = j + 1 + 1 := by rw [List.length_append, hcl]; rfl
          rw [hl9, List.map_append]
          first | exact h1' | (rw [hcl] at h1'; exact h1')
         ·
          exact B10.setCell (by show g ≤ g + 3; omega) _
      ·
       have h3' : ¬ (j : Int) < 2 := by omega
       go_wp2
       go_meet
       exact ⟨v, cs', by omega, HCZ1.out, HR1.out, HO1.out, HW1.out, HB1.out⟩
     ·
      have hlt' : ¬ (j : Int) < (nc : Int) := by omega
      go_wp2
      go_meet
      exact ⟨v, cs', by omega, HCZ1.out, HR1.out, HO1.out, HW1.out, HB1.out⟩
   case rest =>
    obtain ⟨v, cs', hcl, hcz, hR, hO, hW, hB⟩ := hcut
    clear YA YR YC YO YW YB HA HR HO HB
    obtain ⟨A', k', rfl⟩ : ∃ A k, v = .slice A cs'.length k := by
     rcases hW.2 with ⟨rfl, h0⟩ | ⟨g, cap, cur, rfl, _⟩
     ·
      exact ⟨_, _, by rw [h0]⟩
     ·
      exact ⟨_, _, rfl⟩
    have hS := own_seqC hW
    have r0 := hR.cell 0
    have r1 := hR.cell 1
    have r2 := hR.cell 2
    have r3 := hR.cell 3
    have r4 := hR.cell 4
    have r5 := hR.cell 5
    have f0 := hR.free 0
    have f1 := hR.free 1
    have f2 := hR.free 2
    have f3 := hR.free 3
    have f4 := hR.free 4
    have f5 := hR.free 5
    have x0 := hO.cell 0
    have x1 := hO.cell 1
    have x2 := hO.cell 2
    have x3 := hO.cell 3
    have x4 := hO.cell 4
    have x5 := hO.cell 5
    simp only [List.getElem?_toArray, List.getElem?_cons_zero, List.getElem?_cons_succ] at r0 r1 r2 r3 r4 r5 x0 x1 x2 x3 x4 x5
    have HR := Lib.hid hR
    have HB := Lib.hid hB
    have HS := Lib.hid hS
    have HCZ1 := Lib.hid hcz
    clear hR hO hW hB hS hcz
    go_wp2_with fail
    refine bodyPost_ret (v := .agg #[.string s, .slice A' cs'.length k', .int .u8 ml, .int .u8 mr, .int .i64 fm, .int .i64 tm]) (by simp [results, Try.results52, go_sem, r0, r1, r2, r3, r4, r5]) rfl ⟨_, ⟨s, cs', ml, mr, fm, tm⟩, rfl, ⟨_, _, rfl, ?_⟩, ?_, hs3, hcl, ?_⟩
    ·
     rw [hg]
     exact ((((((HS.out.less (lo' := g) (by omega)).set HR.out (by decide) _).set (HR.out.set 0 _) (by decide) _).set ((HR.out.set 0 _).set 1 _) (by decide) _).set (((HR.out.set 0 _).set 1 _).set 2 _) (by decide) _).set ((((HR.out.set 0 _).set 1 _).set 2 _).set 3 _) (by decide) _).set (((((HR.out.set 0 _).set 1 _).set 2 _).set 3 _).set 4 _) (by decide) _
    ·
     exact ⟨by show s.size < _; omega, by show cs'.length < _; omega, HCZ1.out, hml, hmr, ⟨by show _ ≤ fm; omega, by show fm ≤ _; omega⟩, ⟨by show _ ≤ tm; omega, by show tm ≤ _; omega⟩⟩
    ·
     rw [hg]
     exact (((((HB.out.setCell (by show g ≤ g + 1; omega) _).setCell (by show g ≤ g + 1; omega) _).setCell (by show g ≤ g + 1; omega) _).setCell (by show g ≤ g + 1; omega) _).setCell (by show g ≤ g + 1; omega) _).setCell (by show g ≤ g + 1; omega) _
end Go.Proofs.Ytpkdlljefkbmpaa
