/- Reference of the tables: Base(0), (4), (5). -/
import Derived.Test.YtiedaongfjcbhaaMake4
namespace Go.Proofs.Ytiedaongfjcbhaa
open Go.RowKit
set_option maxRecDepth 10000 in
set_option maxHeartbeats 1000000 in
theorem base00_any (kk : Int) (h0 : 0 ≤ kk) (h1 : kk < 256) (hk : kk % 8 = 0) (w : World) : Calls Try.prog 36 #[.int .u8 kk] w (TableEnd 1 1 lettersR w) := by
  go_enter Try.func36, Try.ntmps36
  go_wp2_with fail
  refine (letters_any _).mono ?_
  rintro e w1 ⟨v, rfl, hm, hb⟩
  have HP := Lib.hid (pre_of hm hb)
  obtain ⟨A, k, vals, rfl, _⟩ := hm
  clear hb
  have P5 : Hid (Blk ((((w1.alloc (.cells #[.int .i64 0, .int .i64 0] 91)).alloc (.cells #[.int .i64 0, .int .i64 1] 91)).alloc (.cells #[.int .i64 1, .int .i64 1] 91)).alloc (.cells #[.int .i64 1, .int .i64 0] 91)) w.heap.size 31 #[.int .i64 0, .int .u8 0, .slice none 0 0]) := HP.out.1
  have c0 := P5.out.cell 0
  have c1 := P5.out.cell 1
  have c2 := P5.out.cell 2
  have f0 := P5.out.free 0
  have f1 := P5.out.free 1
  have f2 := P5.out.free 2
  simp only [List.getElem?_toArray, List.getElem?_cons_zero, List.getElem?_cons_succ] at c0 c1 c2
  go_wp2_with fail
  obtain ⟨hP2, hM, _, _, _, _, hBB, hz, hV⟩ := HP.out
  refine bodyPost_ret (v := .agg #[.int .i64 1, .int .u8 1, .slice A lettersR.length k]) (by simp [results, Try.results36, go_sem, c0, c1, c2]) rfl ⟨_, rfl, ?_, ?_⟩
  · exact Made.set (Made.set (Made.set hM hP2 (by decide) _) (hP2.set 0 _) (by decide) _) ((hP2.set 0 _).set 1 _) (by decide) _
  · exact ((hBB.setCell (Nat.le_refl _) _).setCell (Nat.le_refl _) _).setCell (Nat.le_refl _) _

def new4R : List Rule := [simpleR (strOf [45]) [1, 3] 0 0]
set_option maxRecDepth 10000 in
set_option maxHeartbeats 1000000 in
theorem base4_any (kk : Int) (h0 : 0 ≤ kk) (h1 : kk < 256) (hk : kk % 8 = 4) (w : World) : Calls Try.prog 36 #[.int .u8 kk] w (TableEnd 1 1 (lettersR ++ new4R) w) := by
  go_enter Try.func36, Try.ntmps36
  go_wp2_with fail
  refine (letters_any _).mono ?_
  rintro e w1 ⟨v, rfl, hm, hb⟩
  have HP := Lib.hid (pre_of hm hb)
  obtain ⟨A, k, vals, rfl, _⟩ := hm
  clear hb
  obtain ⟨hP2, hM, hB4, hB5, hB6, hB7, hBB, hz, hV⟩ := HP.out
  clear HP
  have HP2 := Lib.hid hP2
  have HM := Lib.hid hM
  have HBB := Lib.hid hBB
  have c40 := hB4.cell 0
  have c41 := hB4.cell 1
  simp at c40 c41
  clear hP2 hM hB4 hB5 hB6 hB7 hBB
  go_wp2_with fail
  generalize hVV : (((w1.alloc (.cells #[.int .i64 0, .int .i64 0] 91)).alloc (.cells #[.int .i64 0, .int .i64 1] 91)).alloc (.cells #[.int .i64 1, .int .i64 1] 91)).alloc (.cells #[.int .i64 1, .int .i64 0] 91) = V at *
  have hs : V.heap.size = w1.heap.size + 1 + 1 + 1 + 1 := by rw [← hVV]; simp
  have hC := IsCells.new2 V 1 3
  obtain ⟨A', k', e', hS⟩ := hC
  injection e' with e1 e2 e3
  subst e1 e3
  rw [hs] at hS
  have HS := Lib.hid hS
  clear hS e2 hVV
  refine (simple_any _ _ _ _ _ _ _).mono ?_
  rintro e w2 ⟨rfl, hb⟩
  have B2 := Lib.hid (below_next (below_box V #[.int .u8 1, .int .u8 3] 64) hb)
  have S2 := Lib.hid ((HS.out.below hb).less (lo' := w.heap.size) (by omega))
  clear hb HS c40 c41
  have M2 := Lib.hid (HM.out.keep B2.out)
  have P2 := Lib.hid (HP2.out.keep B2.out (by omega))
  have BB2 := Lib.hid (HBB.out.trans (B2.out.mono (by omega)))
  have hsz := B2.out.size
  have hn := Lib.hid (NewR.lit (RulesW.nil.snoc (k := 2) (x := simpleR (strOf [45]) [1, 3] 0 0) S2.out (simpleR_fits (by decide) (by decide) (by decide) (by decide) (by decide))))
  have M3 := Lib.hid (M2.out.keep (below_box w2 _ 55) (w' := w2.alloc (.cells (ruleVals (some ⟨w1.heap.size + 1 + 1 + 1 + 1, 0, none⟩) 2 (simpleR (strOf [45]) [1, 3] 0 0)).toArray 55)))
  have P3 := Lib.hid (Blk.box (e := 55) (vs := (ruleVals (some ⟨w1.heap.size + 1 + 1 + 1 + 1, 0, none⟩) 2 (simpleR (strOf [45]) [1, 3] 0 0)).toArray) P2.out)
  have BB3 := Lib.hid (BB2.out.alloc BB2.out.size (.cells (ruleVals (some ⟨w1.heap.size + 1 + 1 + 1 + 1, 0, none⟩) 2 (simpleR (strOf [45]) [1, 3] 0 0)).toArray 55))
  clear HP2 HM HBB B2 S2 M2 P2 BB2
  go_wp2_with (at_builtin; refine wpList_append_made rfl _ _ rfl w.heap.size w.heap.size _ _ lettersR new4R rfl M3.out.b rfl hn.out (by decide) (by decide) ?c1 ?_)
  case c1 => have := BB3.out.size; simpa using this
  intro v' w5 hm5 hO5
  obtain ⟨A2, k2, rfl, hR2, hk2⟩ := hm5.rules
  have hQ := hO5.blk P3.out (by decide)
  have hBw := BB3.out.trans ((hO5.below BB3.out.size).mono (Nat.le_refl _))
  have c0 := hQ.cell 0
  have c1 := hQ.cell 1
  have c2 := hQ.cell 2
  have f0 := hQ.free 0
  have f1 := hQ.free 1
  have f2 := hQ.free 2
  simp only [List.getElem?_toArray, List.getElem?_cons_zero, List.getElem?_cons_succ] at c0 c1 c2
  go_wp2_with fail
  refine bodyPost_ret (v := .agg #[.int .i64 1, .int .u8 1, .slice A2 (lettersR ++ new4R).length k2]) (by simp [results, Try.results36, go_sem, c0, c1, c2]) rfl ⟨_, rfl, ?_, ?_⟩
  · exact MadeB.one (MadeB.set (MadeB.set (MadeB.set hm5 hQ (by decide) _) (hQ.set 0 _) (by decide) _) ((hQ.set 0 _).set 1 _) (by decide) _) (Nat.le_refl _)
  · exact ((hBw.setCell (Nat.le_refl _) _).setCell (Nat.le_refl _) _).setCell (Nat.le_refl _) _
end Go.Proofs.Ytiedaongfjcbhaa
