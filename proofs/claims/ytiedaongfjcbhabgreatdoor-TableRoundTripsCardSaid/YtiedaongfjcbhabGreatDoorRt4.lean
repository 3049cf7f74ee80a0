/- The reference's Same, of a table with itself. -/
import Derived.Test.YtiedaongfjcbhabGreatDoorRt3
namespace Go.Proofs.YtiedaongfjcbhabGreatDoor
open Go.RowKit

theorem two_pre (w : World) (a b : Array Value) :
    Blk ((w.alloc (.cells a 28)).alloc (.cells b 28)) w.heap.size 28 a ∧ Blk ((w.alloc (.cells a 28)).alloc (.cells b 28)) (w.heap.size + 1) 28 b ∧ Below w.heap.size w ((w.alloc (.cells a 28)).alloc (.cells b 28)) := by
  have n2 := Blk.new (w.alloc (.cells a 28)) b 28
  have s : (w.alloc (.cells a 28)).heap.size = w.heap.size + 1 := by simp
  rw [s] at n2
  exact ⟨(Blk.new _ _ _).box, n2, ((Below.refl _ _).alloc (Nat.le_refl _) _).alloc (by simp) _⟩
theorem keepSame {V w' w'' : World} {b o b2 o2 g n k l k1 k2 : Nat} {x : Rule} {A B A1 A2 : Option Addr} (hb1 : b < V.heap.size) (hb2 : b2 < V.heap.size) (hg : g + 1 < V.heap.size) (hb : Below w'.heap.size w' w'')
    (H : Below V.heap.size V w' ∧ w'.cell? ⟨b, o, none⟩ = some (.string x.p) ∧ w'.cell? ⟨b, o + 1, none⟩ = some (.slice A1 x.c.length k1) ∧ w'.cell? ⟨b, o + 2, none⟩ = some (.int .u8 x.l) ∧ w'.cell? ⟨b, o + 3, none⟩ = some (.int .u8 x.r) ∧ w'.cell? ⟨b, o + 4, none⟩ = some (.int .i64 x.f) ∧ w'.cell? ⟨b, o + 5, none⟩ = some (.int .i64 x.t) ∧ w'.cell? ⟨b2, o2, none⟩ = some (.string x.p) ∧ w'.cell? ⟨b2, o2 + 1, none⟩ = some (.slice A2 x.c.length k2) ∧ w'.cell? ⟨b2, o2 + 2, none⟩ = some (.int .u8 x.l) ∧ w'.cell? ⟨b2, o2 + 3, none⟩ = some (.int .u8 x.r) ∧ w'.cell? ⟨b2, o2 + 4, none⟩ = some (.int .i64 x.f) ∧ w'.cell? ⟨b2, o2 + 5, none⟩ = some (.int .i64 x.t) ∧ w'.cell? ⟨g, 2, none⟩ = some (.slice A n k) ∧ w'.cell? ⟨g + 1, 2, none⟩ = some (.slice B n l)) :
    Below V.heap.size V w'' ∧ w''.cell? ⟨b, o, none⟩ = some (.string x.p) ∧ w''.cell? ⟨b, o + 1, none⟩ = some (.slice A1 x.c.length k1) ∧ w''.cell? ⟨b, o + 2, none⟩ = some (.int .u8 x.l) ∧ w''.cell? ⟨b, o + 3, none⟩ = some (.int .u8 x.r) ∧ w''.cell? ⟨b, o + 4, none⟩ = some (.int .i64 x.f) ∧ w''.cell? ⟨b, o + 5, none⟩ = some (.int .i64 x.t) ∧ w''.cell? ⟨b2, o2, none⟩ = some (.string x.p) ∧ w''.cell? ⟨b2, o2 + 1, none⟩ = some (.slice A2 x.c.length k2) ∧ w''.cell? ⟨b2, o2 + 2, none⟩ = some (.int .u8 x.l) ∧ w''.cell? ⟨b2, o2 + 3, none⟩ = some (.int .u8 x.r) ∧ w''.cell? ⟨b2, o2 + 4, none⟩ = some (.int .i64 x.f) ∧ w''.cell? ⟨b2, o2 + 5, none⟩ = some (.int .i64 x.t) ∧ w''.cell? ⟨g, 2, none⟩ = some (.slice A n k) ∧ w''.cell? ⟨g + 1, 2, none⟩ = some (.slice B n l) := by
  obtain ⟨h1, a0, a1, a2, a3, a4, a5, c0, c1, c2, c3, c4, c5, e1, e2⟩ := H
  have hs := h1.size
  exact ⟨h1.trans (hb.mono hs), keepC hb a0 (by omega), keepC hb a1 (by omega), keepC hb a2 (by omega), keepC hb a3 (by omega), keepC hb a4 (by omega), keepC hb a5 (by omega), keepC hb c0 (by omega), keepC hb c1 (by omega), keepC hb c2 (by omega), keepC hb c3 (by omega), keepC hb c4 (by omega), keepC hb c5 (by omega), keepC hb e1 (by omega), keepC hb e2 (by omega)⟩
set_option maxRecDepth 10000 in
set_option maxHeartbeats 2000000 in
theorem rSame_any (A B : Option Addr) (n k l : Nat) (m a : Int) (rs : List Rule) (w : World) (hn : rs.length = n) (hx : Rules w w.heap.size A rs) (hy : Rules w w.heap.size B rs) (hmax : n < 2 ^ 40) :
    Calls Tryz.prog 9 #[.agg #[.int .i64 m, .int .u8 a, .slice A n k], .agg #[.int .i64 m, .int .u8 a, .slice B n l]] w fun e w' => e = .returned (.bool true) ∧ Below w.heap.size w w' := by
  have HN := Lib.hid hn
  have HP := Lib.hid (two_pre w #[.int .i64 m, .int .u8 a, .slice A n k] #[.int .i64 m, .int .u8 a, .slice B n l])
  have HX := Lib.hid (hx.up HP.out.2.2)
  have HY := Lib.hid (hy.up HP.out.2.2)
  clear hn hx hy
  go_enter Tryz.func9, Tryz.ntmps9
  go_wp2_with fail
  generalize (w.alloc (.cells #[.int .i64 m, .int .u8 a, .slice A n k] 28)).alloc (.cells #[.int .i64 m, .int .u8 a, .slice B n l] 28) = V at *
  obtain ⟨g, hg⟩ : ∃ g, w.heap.size = g := ⟨_, rfl⟩
  rw [hg] at HP ⊢
  have a0 := HP.out.1.cell 0
  have a1 := HP.out.1.cell 1
  have a2 := HP.out.1.cell 2
  have b0 := HP.out.2.1.cell 0
  have b1 := HP.out.2.1.cell 1
  have b2 := HP.out.2.1.cell 2
  simp only [List.getElem?_toArray, List.getElem?_cons_zero, List.getElem?_cons_succ] at a0 a1 a2 b0 b1 b2
  have HG := Lib.hid hg
  clear hg
  go_wp2_with fail
  have hgV : g + 1 < V.heap.size := Blk.lt HP.out.2.1
  have HBV := Lib.hid HP.out.2.2
  clear a0 a1 b0 b1 HP
  go_loopw [5] (fun i wr => ∃ j : Nat, j ≤ n ∧ i = .int .i64 j ∧ Below V.heap.size V wr) (fun i _ => n - (intOf i).toNat)
  case atStart => exact ⟨0, by omega, rfl, Below.refl _ _⟩
  case round =>
    obtain ⟨j, hj, rfl, hb⟩ := hrel
    have HB := Lib.hid hb
    have hs1 := hb.size
    have a2' := (hb.cell (p := ⟨g, 2, none⟩) (by show g < _; omega)).trans a2
    have b2' := (hb.cell (p := ⟨g + 1, 2, none⟩) hgV).trans b2
    clear hb a2 b2
    by_cases hlt : j < n
    · obtain ⟨b, o, e1, hB1, hc1⟩ := HX.out (by have := HN.out; omega)
      subst e1
      obtain ⟨c, p, e2, hB2, hc2⟩ := HY.out (by have := HN.out; omega)
      subst e2
      obtain ⟨A1, k1, d0, d1, d2, d3, d4, d5, hs, hf⟩ := (hc1 j (by have := HN.out; omega)).keep hB1 HB.out
      obtain ⟨A2, k2, f0, f1, f2, f3, f4, f5, ht, _⟩ := (hc2 j (by have := HN.out; omega)).keep hB2 HB.out
      generalize rs[j]'(by have := HN.out; omega) = x at *
      have hj0 : (0 : Int) ≤ (j : Int) := by omega
      have hjn : (j : Int) < (n : Int) := by omega
      have hl := hf.2.1
      have HS1 := Lib.hid (hs.more hs1)
      have HS2 := Lib.hid (ht.more hs1)
      have hbr : b < wr.heap.size := by omega
      have hcr : c < wr.heap.size := by omega
      have hgr : g + 1 < wr.heap.size := by omega
      have HK := Lib.hid hlt
      clear hc1 hc2 hs ht hf
      go_wp2_with fail
      have hS : Below wr.heap.size wr wr ∧ wr.cell? ⟨b, o + j * 6, none⟩ = some (.string x.p) ∧ wr.cell? ⟨b, o + j * 6 + 1, none⟩ = some (.slice A1 x.c.length k1) ∧ wr.cell? ⟨b, o + j * 6 + 2, none⟩ = some (.int .u8 x.l) ∧ wr.cell? ⟨b, o + j * 6 + 3, none⟩ = some (.int .u8 x.r) ∧ wr.cell? ⟨b, o + j * 6 + 4, none⟩ = some (.int .i64 x.f) ∧ wr.cell? ⟨b, o + j * 6 + 5, none⟩ = some (.int .i64 x.t) ∧ wr.cell? ⟨c, p + j * 6, none⟩ = some (.string x.p) ∧ wr.cell? ⟨c, p + j * 6 + 1, none⟩ = some (.slice A2 x.c.length k2) ∧ wr.cell? ⟨c, p + j * 6 + 2, none⟩ = some (.int .u8 x.l) ∧ wr.cell? ⟨c, p + j * 6 + 3, none⟩ = some (.int .u8 x.r) ∧ wr.cell? ⟨c, p + j * 6 + 4, none⟩ = some (.int .i64 x.f) ∧ wr.cell? ⟨c, p + j * 6 + 5, none⟩ = some (.int .i64 x.t) ∧ wr.cell? ⟨g, 2, none⟩ = some (.slice (some ⟨b, o, none⟩) n k) ∧ wr.cell? ⟨g + 1, 2, none⟩ = some (.slice (some ⟨c, p, none⟩) n l) := ⟨Below.refl _ _, d0, d1, d2, d3, d4, d5, f0, f1, f2, f3, f4, f5, a2', b2'⟩
      clear d0 d1 d2 d3 d4 d5 f0 f1 f2 f3 f4 f5 a2' b2'
      go_region_held3 (fun w' => Below wr.heap.size wr w' ∧ w'.cell? ⟨b, o + j * 6, none⟩ = some (.string x.p) ∧ w'.cell? ⟨b, o + j * 6 + 1, none⟩ = some (.slice A1 x.c.length k1) ∧ w'.cell? ⟨b, o + j * 6 + 2, none⟩ = some (.int .u8 x.l) ∧ w'.cell? ⟨b, o + j * 6 + 3, none⟩ = some (.int .u8 x.r) ∧ w'.cell? ⟨b, o + j * 6 + 4, none⟩ = some (.int .i64 x.f) ∧ w'.cell? ⟨b, o + j * 6 + 5, none⟩ = some (.int .i64 x.t) ∧ w'.cell? ⟨c, p + j * 6, none⟩ = some (.string x.p) ∧ w'.cell? ⟨c, p + j * 6 + 1, none⟩ = some (.slice A2 x.c.length k2) ∧ w'.cell? ⟨c, p + j * 6 + 2, none⟩ = some (.int .u8 x.l) ∧ w'.cell? ⟨c, p + j * 6 + 3, none⟩ = some (.int .u8 x.r) ∧ w'.cell? ⟨c, p + j * 6 + 4, none⟩ = some (.int .i64 x.f) ∧ w'.cell? ⟨c, p + j * 6 + 5, none⟩ = some (.int .i64 x.t) ∧ w'.cell? ⟨g, 2, none⟩ = some (.slice (some ⟨b, o, none⟩) n k) ∧ w'.cell? ⟨g + 1, 2, none⟩ = some (.slice (some ⟨c, p, none⟩) n l)) (first | assumption | (apply keepSame hbr hcr hgr; (first | assumption | exact Below.drew (Below.refl _ _)); assumption))
        (first | (go_at_call 27; refine (sameRule_any A1 A2 _ _ k1 k2 x x _ rfl rfl (by first | exact HS1.out | exact HS1.out.up (by assumption) | exact HS1.out.up (And.left (by assumption))) (by first | exact HS2.out | exact HS2.out.up (by assumption) | exact HS2.out.up (And.left (by assumption))) hl).mono ?_; rintro e w3 ⟨rfl, hb3⟩; rw [eqB_refl rfl]))
      rename_i hheld
      have HB2 := Lib.hid (HB.out.trans (hheld.1.mono hs1))
      clear hheld hS
      go_wp2_with fail
      refine ⟨⟨j + 1, by have := HK.out; omega, by go_num, HB2.out⟩, ?_⟩
      have := HK.out; simp [intOf]; omega
    · have : j = n := by omega
      subst this
      have HBW := Lib.hid (HBV.out.trans (HB.out.mono (by have := HBV.out.size; omega)))
      go_wp2_with fail
      go_ret
      exact ⟨rfl, by first | exact HBW.out | (rw [HG.out]; exact HBW.out)⟩
end Go.Proofs.YtiedaongfjcbhabGreatDoor
