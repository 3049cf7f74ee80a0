/- Merged by program: Make6 Inv3 -/
import Derived.Test.YtpkdlljefkbmpaaQ6

/-! Reference of the tables: Base(0), (4), (5). -/
namespace Go.Proofs.Ytpkdlljefkbmpaa
open Go.RowKit
set_option maxRecDepth 10000 in
set_option maxHeartbeats 1000000 in
theorem base00_any (kk : Int) (h0 : 0 ≤ kk) (h1 : kk < 256) (hk : kk % 8 = 0) (w : World) : Calls Try.prog 51 #[.int .u8 kk] w (TableEnd 1 1 lettersR w) := by
 go_enter Try.func51, Try.ntmps51
 go_wp2_with fail
 refine (letters_any _).mono ?_
 rintro e w1 ⟨v, rfl, hm, hb⟩
 have HP := Lib.hid (pre_of hm hb)
 obtain ⟨A, k, vals, rfl, _⟩ := hm
 clear hb
 have P5 : Hid (Blk ((((w1.alloc (.cells #[.int .i64 0, .int .i64 0] 157)).alloc (.cells #[.int .i64 0, .int .i64 1] 157)).alloc (.cells #[.int .i64 1, .int .i64 1] 157)).alloc (.cells #[.int .i64 1, .int .i64 0] 157)) w.heap.size 30 #[.int .i64 0, .int .u8 0, .slice none 0 0]) := HP.out.1
 have c0 := P5.out.cell 0
 have c1 := P5.out.cell 1
 have c2 := P5.out.cell 2
 have f0 := P5.out.free 0
 have f1 := P5.out.free 1
 have f2 := P5.out.free 2
 simp only [List.getElem?_toArray, List.getElem?_cons_zero, List.getElem?_cons_succ] at c0 c1 c2
 go_wp2_with fail
 obtain ⟨hP2, hM, _, _, _, _, hBB, hz, hV⟩ := HP.out
 refine bodyPost_ret (v := .agg #[.int .i64 1, .int .u8 1, .slice A lettersR.length k]) (by simp [results, Try.results51, go_sem, c0, c1, c2]) rfl ⟨_, rfl, ?_, ?_⟩
 ·
  exact Made.set (Made.set (Made.set hM hP2 (by decide) _) (hP2.set 0 _) (by decide) _) ((hP2.set 0 _).set 1 _) (by decide) _
 ·
  exact ((hBB.setCell (Nat.le_refl _) _).setCell (Nat.le_refl _) _).setCell (Nat.le_refl _) _

def new4R : List Rule := [simpleR (strOf [45]) [1, 3] 0 0]
set_option maxRecDepth 10000 in
set_option maxHeartbeats 1000000 in
theorem base4_any (kk : Int) (h0 : 0 ≤ kk) (h1 : kk < 256) (hk : kk % 8 = 4) (w : World) : Calls Try.prog 51 #[.int .u8 kk] w (TableEnd 1 1 (lettersR ++ new4R) w) := by
 go_enter Try.func51, Try.ntmps51
 go_wp2_with fail
 refine (letters_any _).mono ?_
 rintro e w1 ⟨v, rfl, hm, hb⟩
 have HP := Lib.hid (pre_of hm hb)
 obtain ⟨A, k, vals, rfl, _⟩ := hm
 clear hb
 obtain ⟨hP2, hM, hB4, hB5, hB6, hB7, hBB, hz, hV⟩ := HP.out
 clear HP
 have HP2 := Lib.hid hP2
 have HM := Lib.hid hM
 have HBB := Lib.hid hBB
 have c40 := hB4.cell 0
 have c41 := hB4.cell 1
 simp at c40 c41
 clear hP2 hM hB4 hB5 hB6 hB7 hBB
 go_wp2_with fail
 generalize hVV : (((w1.alloc (.cells #[.int .i64 0, .int .i64 0] 157)).alloc (.cells #[.int .i64 0, .int .i64 1] 157)).alloc (.cells #[.int .i64 1, .int .i64 1] 157)).alloc (.cells #[.int .i64 1, .int .i64 0] 157) = V at *
 have hs : V.heap.size = w1.heap.size + 1 + 1 + 1 + 1 := by rw [← hVV]; simp
 have hC := IsCells.new2 V 1 3
 obtain ⟨A', k', e', hS⟩ := hC
 injection e' with e1 e2 e3
 subst e1 e3
 rw [hs] at hS
 have HS := Lib.hid hS
 clear hS e2 hVV
 refine (simple_any _ _ _ _ _ _ _).mono ?_
 rintro e w2 ⟨rfl, hb⟩
 have B2 := Lib.hid (below_next (below_box V #[.int .u8 1, .int .u8 3] 96) hb)
 have S2 := Lib.hid ((HS.out.below hb).less (lo' := w.heap.size) (by omega))
 clear hb HS c40 c41
 have M2 := Lib.hid (HM.out.keep B2.out)
 have P2 := Lib.hid (HP2.out.keep B2.out (by omega))
 have BB2 := Lib.hid (HBB.out.trans (B2.out.mono (by omega)))
 have hsz := B2.out.size
 have hn := Lib.hid (NewR.lit (RulesW.nil.snoc (k := 2) (x := simpleR (strOf [45]) [1, 3] 0 0) S2.out (simpleR_fits (by decide) (by decide) (by decide) (by decide) (by decide))))
 have M3 := Lib.hid (M2.out.keep (below_box w2 _ 99) (w' := w2.alloc (.cells (ruleVals (some ⟨w1.heap.size + 1 + 1 + 1 + 1, 0, none⟩) 2 (simpleR (strOf [45]) [1, 3] 0 0)).toArray 99)))
 have P3 := Lib.hid (Blk.box (e := 99) (vs := (ruleVals (some ⟨w1.heap.size + 1 + 1 + 1 + 1, 0, none⟩) 2 (simpleR (strOf [45]) [1, 3] 0 0)).toArray) P2.out)
 have BB3 := Lib.hid (BB2.out.alloc BB2.out.size (.cells (ruleVals (some ⟨w1.heap.size + 1 + 1 + 1 + 1, 0, none⟩) 2 (simpleR (strOf [45]) [1, 3] 0 0)).toArray 99))
 clear HP2 HM HBB B2 S2 M2 P2 BB2
 go_wp2_with (at_builtin; refine wpList_append_made rfl _ _ rfl w.heap.size w.heap.size _ _ lettersR new4R rfl M3.out.b rfl hn.out (by decide) (by decide) ?c1 ?_)
 case c1 => have := BB3.out.size; simpa using this
 intro v' w5 hm5 hO5
 obtain ⟨A2, k2, rfl, hR2, hk2⟩ := hm5.rules
 have hQ := hO5.blk P3.out (by decide)
 have hBw := BB3.out.trans ((hO5.below BB3.out.size).mono (Nat.le_refl _))
 have c0 := hQ.cell 0
 have c1 := hQ.cell 1
 have c2 := hQ.cell 2
 have f0 := hQ.free 0
 have f1 := hQ.free 1
 have f2 := hQ.free 2
 simp only [List.getElem?_toArray, List.getElem?_cons_zero, List.getElem?_cons_succ] at c0 c1 c2
 go_wp2_with fail
 refine bodyPost_ret (v := .agg #[.int .i64 1, .int .u8 1, .slice A2 (lettersR ++ new4R).length k2]) (by simp [results, Try.results51, go_sem, c0, c1, c2]) rfl ⟨_, rfl, ?_, ?_⟩
 ·
  exact MadeB.one (MadeB.set (MadeB.set (MadeB.set hm5 hQ (by decide) _) (hQ.set 0 _) (by decide) _) ((hQ.set 0 _).set 1 _) (by decide) _) (Nat.le_refl _)
 ·
  exact ((hBw.setCell (Nat.le_refl _) _).setCell (Nat.le_refl _) _).setCell (Nat.le_refl _) _
end Go.Proofs.Ytpkdlljefkbmpaa

/-! A region that draws its order: operations that only make, then two more, one behind the other. -/
namespace Go.Proofs.Ytpkdlljefkbmpaa
open Go.RowKit

theorem wp_region_two {P : Program} {id : Nat} {ops : Array Oper} {Q : Exit → Act → World → Prop} {d : List Deferred} {w0 : World} (N : Nat) (hm : P.follows .mixedOrders = true)
  (slots slots1 slots2 : (Nat → Value) → List Value) (S : (Nat → Value) → World → Prop) (φ : Nat → Value → World → Prop) (T1 T2 : (Nat → Value) → World → Prop) (y0 : Nat → Value)
  (hsz : ops.size = N + 2)
  (hac : (List.range ops.size).all (fun i => (depsOf ops i).all (· < i)) = true)
  (hcov : (List.range N).all (fun i => (List.range (N + 1)).any fun k => decide (i < k) && (depsOf ops k).contains i) = true)
  (hlast : (depsOf ops (N + 1)).contains N = true)
  (hmono : ∀ i v w w', φ i v w → Below w.heap.size w w' → φ i v w')
  (hS : S y0 w0.drew)
  (rs : List Nat) (hrs : List.range N = rs)
  (hop : ∀ i ∈ rs, ∀ (y : Nat → Value) (w : World) (K : Act → World → Prop), S y w → (∀ j, (depsOf ops i).contains j = true → φ j (y j) w) →
   (∀ v w', S (upd y i v) w' → φ i v w' → Below w.heap.size w w' → K ⟨(slots (upd y i v)).toArray, d⟩ w') → wpOp P ops Q i K ⟨(slots y).toArray, d⟩ w)
  (happ : ∀ (y : Nat → Value) (w : World) (K : Act → World → Prop), S y w → (∀ i, i < N → φ i (y i) w) →
   (∀ y' w', T1 y' w' → K ⟨(slots1 y').toArray, d⟩ w') → wpOp P ops Q N K ⟨(slots y).toArray, d⟩ w)
  (hlst : ∀ (y : Nat → Value) (w : World) (K : Act → World → Prop), T1 y w → (∀ y' w', T2 y' w' → K ⟨(slots2 y').toArray, d⟩ w') → wpOp P ops Q (N + 1) K ⟨(slots1 y).toArray, d⟩ w)
  (hend : ∀ (y : Nat → Value) (w : World), T2 y w → Q .normal ⟨(slots2 y).toArray, d⟩ w) :
  (Code.region id ops true).wp P Q ⟨(slots y0).toArray, d⟩ w0 := by
 have hlt : ∀ i, i < ops.size → ∀ j, (depsOf ops i).contains j = true → j < i := by
  intro i hi j hj
  have h1 := List.all_eq_true.1 hac i (List.mem_range.2 hi)
  simpa using List.all_eq_true.1 h1 j (by simpa using hj)
 refine wp_region_any hm ?_
 refine wpAny_inv (fun b a w => ClosedB ops b ∧ ∃ y, (b N = false ∧ b (N + 1) = false ∧ a = ⟨(slots y).toArray, d⟩ ∧ S y w ∧ ∀ i, i < N → b i = true → φ i (y i) w) ∨ (b N = true ∧ (∀ i, i < N → b i = true) ∧ ((b (N + 1) = false ∧ T1 y w ∧ a = ⟨(slots1 y).toArray, d⟩) ∨ (b (N + 1) = true ∧ T2 y w ∧ a = ⟨(slots2 y).toArray, d⟩)))) ?_ ?_ ?_ _ _ _ _ (by simp) ⟨?_, y0, .inl ⟨by simp [hsz], by simp [hsz], rfl, hS, ?_⟩⟩ (by simp)
 ·
  intro i o ho e he hb
  exact hlt i (Array.getElem?_eq_some_iff.1 ho).1 _ (mem_deps ho he hb)
 ·
  rintro b a w i ⟨hcl, y, h⟩ hi hbi hd
  have hcl' : ClosedB ops (fun j => if j = i then true else b j) := by
   intro k hk hbk j hj
   by_cases hji : j = i
   ·
    simp [hji]
   ·
    simp only [hji, if_false]
    by_cases hki : k = i
    ·
     subst hki; exact of_deps hi hd hj
    ·
     simp only [hki, if_false] at hbk; exact hcl k hk hbk j hj
  rcases h with ⟨hN, hN1, rfl, hSw, hφ⟩ | ⟨hN, hall, h⟩
  ·
   by_cases hiN : i < N
   ·
    refine hop i (by rw [← hrs]; exact List.mem_range.2 hiN) y w _ hSw (fun j hj => hφ j (by have := hlt i hi j hj; omega) (of_deps hi hd hj)) (fun v w' hS' hv hb' => ⟨hcl', upd y i v, .inl ⟨?_, ?_, rfl, hS', fun j hjN hj => ?_⟩⟩)
    ·
     simp [show ¬ N = i by omega, hN]
    ·
     simp [show ¬ N + 1 = i by omega, hN1]
    ·
     by_cases hji : j = i
     ·
      subst hji
      have : upd y j v j = v := by simp [upd]
      rw [this]; exact hv
     ·
      have : upd y i v j = y j := by simp [upd, hji]
      rw [this]
      exact hmono j _ w w' (hφ j hjN (by simpa [hji] using hj)) hb'
   ·
    by_cases hie : i = N
    ·
     subst hie
     have hall : ∀ j, j < i → b j = true := covered (by omega) hcov hcl (fun j hj => of_deps hi hd hj)
     exact happ y w _ hSw (fun j hj => hφ j hj (hall j hj)) (fun y' w' hT => ⟨hcl', y', .inr ⟨by simp, fun j hj => by simp [show ¬ j = i by omega, hall j hj], .inl ⟨by simp [hN1], hT, rfl⟩⟩⟩)
    ·
     obtain rfl : i = N + 1 := by omega
     have := of_deps hi hd hlast
     rw [hN] at this; cases this
  ·
   by_cases hie : i = N + 1
   ·
    subst hie
    rcases h with ⟨_, hT, rfl⟩ | ⟨h1, _⟩
    ·
     exact hlst y w _ hT (fun y' w' hT2 => ⟨hcl', y', .inr ⟨by simp [hN], fun j hj => by simp [show ¬ j = N + 1 by omega, hall j hj], .inr ⟨by simp, hT2, rfl⟩⟩⟩)
    ·
     rw [hbi] at h1; cases h1
   ·
    exfalso
    rcases Nat.lt_or_ge i N with g | g
    ·
     rw [hall i g] at hbi; cases hbi
    ·
     obtain rfl : i = N := by omega
     rw [hN] at hbi; cases hbi
 ·
  rintro b a w ⟨_, y, h⟩ hall
  rcases h with ⟨hN, _⟩ | ⟨_, _, ⟨hN1, _⟩ | ⟨_, hT, rfl⟩⟩
  ·
   rw [hall N (by omega)] at hN; cases hN
  ·
   rw [hall (N + 1) (by omega)] at hN1; cases hN1
  ·
   exact hend y w hT
 ·
  intro i hi hbi
  simp [hi] at hbi
 ·
  intro i hi hbi
  by_cases h : i < ops.size
  ·
   simp [h] at hbi
  ·
   simp [h] at hbi
end Go.Proofs.Ytpkdlljefkbmpaa
