/- Package table: Format. -/
import Derived.Test.YtiedaongfjcbhabGreatDoorFmt3
namespace Go.Proofs.YtiedaongfjcbhabGreatDoor
open Go.RowKit

def headL (m a : Int) : List UInt8 := [109, 111, 100, 101, 115, 32] ++ Lib.itoa m ++ [32] ++ [97, 99, 99, 101, 112, 116] ++ [32] ++ Lib.itoa a ++ [10]
def linesL (m a : Int) (rs : List Rule) : List (List UInt8) := headL m a :: rs.map fmtRule
def fmtTable (m a : Int) (rs : List Rule) : List UInt8 := Lib.join (linesL m a rs) []
theorem fmtRule_len (x : Rule) (h : x.plain) : (fmtRule x).length ≤ 70000 := by
  obtain ⟨h1, h2, h3, h4, h5, h6, h7⟩ := h
  have hB : ∀ y ∈ rowL x, y.length ≤ 10000 := by
    intro y hy
    unfold rowL at hy
    simp only [List.mem_cons, List.not_mem_nil, or_false] at hy
    rcases hy with rfl | rfl | rfl | rfl | rfl | rfl
    · have := Lib.itoa_length_le x.f h6.1 h6.2; omega
    · have := Lib.itoa_length_le x.t h7.1 h7.2; omega
    · have := Lib.itoa_length_le x.l (by omega) (by omega); omega
    · have := Lib.itoa_length_le x.r (by omega) (by omega); omega
    · have := join_bound (x.c.map fun z : Int => toU (dotsText z.toNat)) [45] 6 (fun y hy => by
        rw [List.mem_map] at hy; obtain ⟨z, _, rfl⟩ := hy; unfold toU; rw [List.length_map]; exact dotsText_len _)
      rw [List.length_map] at this
      unfold fmtCells; simp at this; omega
    · unfold toU fmtPrint; rw [List.length_map]; split
      · simp
      · rw [hexes_len, bytes_len]; omega
  have := join_bound (rowL x) [32] 10000 hB
  have e : (rowL x).length = 6 := rfl
  rw [e] at this
  unfold fmtRule
  simp at this ⊢; omega
theorem own_keep {w w' : World} {base size n : Nat} {e : TypeId} {v : Value} {xs : List Value} (h : w.ownsRow base e size v n xs) (hb : Below w.heap.size w w') : w'.ownsRow base e size v n xs := by
  obtain ⟨hl, hf⟩ := id h
  refine ⟨hl, ?_⟩
  rcases hf with h0 | ⟨g, cap, cur, rfl, hg, hblk, hr⟩
  · exact .inl h0
  · exact .inr ⟨g, cap, cur, rfl, hg, (hb.block g (Blk.lt hblk)).trans hblk, hr⟩
theorem keepT {V w' w'' : World} {g : Nat} {m a : Int} {A : Option Addr} {n k : Nat} (hb : Below w'.heap.size w' w'')
    (H : Below V.heap.size V w' ∧ g < w'.heap.size ∧ w'.cell? ⟨g, 0, none⟩ = some (.int .i64 m) ∧ w'.cell? ⟨g, 1, none⟩ = some (.int .u8 a) ∧ w'.cell? ⟨g, 2, none⟩ = some (.slice A n k)) :
    Below V.heap.size V w'' ∧ g < w''.heap.size ∧ w''.cell? ⟨g, 0, none⟩ = some (.int .i64 m) ∧ w''.cell? ⟨g, 1, none⟩ = some (.int .u8 a) ∧ w''.cell? ⟨g, 2, none⟩ = some (.slice A n k) := by
  obtain ⟨h1, h2, a0, a1, a2⟩ := H
  have hs := hb.size
  exact ⟨h1.trans (hb.mono (by have := h1.size; omega)), by omega, keepC hb a0 h2, keepC hb a1 h2, keepC hb a2 h2⟩
set_option maxRecDepth 10000 in
set_option maxHeartbeats 2000000 in
theorem format_any (A : Option Addr) (n k : Nat) (m a : Int) (rs : List Rule) (w : World) (hn : rs.length = n) (hx : Rules w w.heap.size A rs) (hmax : n ≤ 1000) (ha : 0 ≤ a ∧ a < 256) (hm : -9223372036854775808 ≤ m ∧ m ≤ 9223372036854775807) (hp : ∀ x ∈ rs, x.plain) (hL : Laid w) :
    Calls Tryz.prog 6 #[.agg #[.int .i64 m, .int .u8 a, .slice A n k]] w fun e w' => e = .returned (.string (strU (fmtTable m a rs))) ∧ Below w.heap.size w w' := by
  have HN := Lib.hid hn
  have HP := Lib.hid hp
  clear hn hp
  have hbx := Lib.hid (below_box w #[.int .i64 m, .int .u8 a, .slice A n k] 28)
  have hblk := Blk.new w #[.int .i64 m, .int .u8 a, .slice A n k] 28
  have HX := Lib.hid (hx.up hbx.out)
  have HLL := Lib.hid (hL.keep hbx.out)
  clear hx hL
  obtain ⟨i0, hi, hz0, hz1, hz2⟩ := info_parts info_str
  have l1 : (strU (Lib.itoa m)).size ≤ 21 := by rw [strU_size]; exact Lib.itoa_length_le m hm.1 hm.2
  have l2 : (strU (Lib.itoa a)).size ≤ 21 := by rw [strU_size]; exact Lib.itoa_length_le a (by omega) (by omega)
  go_enter Tryz.func6, Tryz.ntmps6
  go_wp2
  generalize w.alloc (.cells #[.int .i64 m, .int .u8 a, .slice A n k] 28) = V at *
  obtain ⟨g, hg⟩ : ∃ g, w.heap.size = g := ⟨_, rfl⟩
  rw [hg] at hblk ⊢
  have hS : Below V.heap.size V V ∧ g < V.heap.size ∧ V.cell? ⟨g, 0, none⟩ = some (.int .i64 m) ∧ V.cell? ⟨g, 1, none⟩ = some (.int .u8 a) ∧ V.cell? ⟨g, 2, none⟩ = some (.slice A n k) := ⟨Below.refl _ _, hblk.lt, by rw [hblk.cell 0]; rfl, by rw [hblk.cell 1]; rfl, by rw [hblk.cell 2]; rfl⟩
  have HG := Lib.hid hg
  clear hblk hg
  have c1 : IntKind.i64.wrap a = a := IntWalk.i64_in _ (by omega)
  have c3 : 0 ≤ a := ha.1
  have c4 : a < 256 := ha.2
  have z0 : ¬ 9223372036854775807 < 6 + (strU (Lib.itoa m)).size := by omega
  have z1 : ¬ 9223372036854775807 < 6 + (strU (Lib.itoa m)).size + 1 := by omega
  have z2 : ¬ 9223372036854775807 < 6 + (strU (Lib.itoa m)).size + 1 + 6 := by omega
  have z3 : ¬ 9223372036854775807 < 6 + (strU (Lib.itoa m)).size + 1 + 6 + 1 := by omega
  have z4 : ¬ 9223372036854775807 < 6 + (strU (Lib.itoa m)).size + 1 + 6 + 1 + (strU (Lib.itoa a)).size := by omega
  have z5 : ¬ 9223372036854775807 < 6 + (strU (Lib.itoa m)).size + 1 + 6 + 1 + (strU (Lib.itoa a)).size + 1 := by omega
  go_region_held3 (fun w' => Below V.heap.size V w' ∧ g < w'.heap.size ∧ w'.cell? ⟨g, 0, none⟩ = some (.int .i64 m) ∧ w'.cell? ⟨g, 1, none⟩ = some (.int .u8 a) ∧ w'.cell? ⟨g, 2, none⟩ = some (.slice A n k)) (first | assumption | (apply keepT; (first | assumption | exact Below.drew (Below.refl _ _) | exact below_box _ _ _); assumption))
    (first | (go_at_call 18; refine (itoa_any _ (by omega) (by omega) _ (by first | exact HLL.out | exact HLL.out.keep (And.left (by assumption)))).mono ?_; rintro e w1 ⟨rfl, hb1⟩))
  clear z0 z1 z2 z3 z4 z5
  rename_i hheld
  obtain ⟨hv, hlt, f0, f1, f2⟩ := hheld
  have HV := Lib.hid hv
  have hgV : g < V.heap.size := hS.2.1
  clear hS hv f0 f1 c1
  go_wp2_with fail
  have hX : ({ data := #[109, 111, 100, 101, 115, 32] } ++ strU (Lib.itoa m) ++ { data := #[32] } ++ { data := #[97, 99, 99, 101, 112, 116] } ++ { data := #[32] } ++ strU (Lib.itoa a) ++ { data := #[10] } : ByteArray) = strU (headL m a) := by
    unfold headL
    simp only [← strU_app]
    rfl
  rw [hX]
  have hown0 := Lib.hid (World.ownsRow_lit (base := V.heap.size) (e := 9) (size := 1) w1 #[.string (strU (headL m a))] 1 HV.out.size (by simp [maxLen]) rfl)
  have HW0 := Lib.hid (below_next (below_next hbx.out HV.out) (below_box w1 #[.string (strU (headL m a))] 9))
  have HVV := Lib.hid (below_next HV.out (below_box w1 #[.string (strU (headL m a))] 9))
  clear hX l1 l2 f2
  have hVs := hbx.out.size
  go_loopw [4, 25] (fun v i wr => ∃ j : Nat, j ≤ n ∧ i = .int .i64 j ∧ wr.ownsRow V.heap.size 9 1 v (j + 1) ((headL m a :: (rs.take j).map fmtRule).map (fun l => Value.string (strU l))) ∧ Below V.heap.size V wr) (fun _ i _ => n - (intOf i).toNat)
  case atStart => exact ⟨0, by omega, rfl, hown0.out, HVV.out⟩
  case round =>
    obtain ⟨j, hj, rfl, hown, hb⟩ := hrel
    clear hown0 HW0 HVV
    have HOWN := Lib.hid hown
    have hs1 := hb.size
    clear hown
    by_cases hlt : j < n
    · obtain ⟨b, o, e1, hB1, hc⟩ := HX.out (by have := HN.out; omega)
      subst e1
      obtain ⟨A', k', d0, d1, d2, d3, d4, d5, hs, hf⟩ := (hc j (by have := HN.out; omega)).keep hB1 hb
      have HY : Hid (rs[j]? = some (rs[j]'(by have := HN.out; omega))) := List.getElem?_eq_getElem _
      have HPX := Lib.hid (HP.out _ (List.mem_of_getElem? HY.out))
      have HSN : Hid ((rs.take (j + 1)).map fmtRule = (rs.take j).map fmtRule ++ [fmtRule (rs[j]'(by have := HN.out; omega))]) := by
        unfold Hid; rw [List.take_succ_eq_append_getElem (by have := HN.out; omega), List.map_append]; rfl
      clear hc
      generalize rs[j]'(by have := HN.out; omega) = x at *
      have hj0 : (0 : Int) ≤ (j : Int) := by omega
      have hjn : (j : Int) < (n : Int) := by omega
      have HB := Lib.hid hb
      have HS := Lib.hid hs
      have hgs : g < wr.heap.size := by omega
      clear hb hs hf
      go_wp2_with fail
      have hbw := Lib.hid (below_box wr #[.string x.p, .slice A' x.c.length k', .int .u8 x.l, .int .u8 x.r, .int .i64 x.f, .int .i64 x.t] 43)
      have HBV := Lib.hid (HB.out.trans (hbw.out.mono hs1))
      refine (formatRule_any A' _ k' x _ rfl (by exact (HS.out.more hs1).up hbw.out) HPX.out (by exact HLL.out.keep HBV.out)).mono ?_
      rintro e w2 ⟨rfl, hb2⟩
      have hsw2 := hb2.size
      have HB2 := Lib.hid (below_next HBV.out hb2)
      have HOWN2 := Lib.hid (own_keep (HOWN.out.alloc (.cells #[.string x.p, .slice A' x.c.length k', .int .u8 x.l, .int .u8 x.r, .int .i64 x.f, .int .i64 x.t] 43)) hb2)
      clear hb2
      have hlen : ((rs.take j).map fmtRule).length = j := by rw [List.length_map, List.length_take]; have := HN.out; omega
      have HLEN := Lib.hid hlen
      clear hlen
      go_wp2_with (at_builtin; refine wpList_append_own _ rfl _ _ 53 rfl V.heap.size 9 i0 (.string ⟨#[]⟩) 1 16 Tryz.underlying53 hi hz0 hz1 hz2 rfl (by decide) _ _ _ rfl (HOWN2.out.alloc _) ⟨w2.heap.size, 0, none⟩ 1 1 [.string (strU (fmtRule x))] rfl rfl ?c1 ?c2 ?c3 ?c4 ?c5 ?_)
      case c1 => exact cell_one_new _ _ _
      case c2 => intro u hu; simp at hu; subst hu; rfl
      case c3 => unfold maxLen; omega
      case c4 => omega
      case c5 => have := HB2.out.size; simp; omega
      intro v' w3 hown' hgrow _
      have hb3 : Below V.heap.size V w3 := (HB2.out.alloc HB2.out.size _).grown hgrow (by have := HB2.out.size; simp; omega) (fun q hq => (HOWN2.out.lt q hq).1)
      have HO := Lib.hid hown'
      have HB3 := Lib.hid hb3
      clear hown' hgrow hb3
      go_wp2
      refine ⟨⟨j + 1, by omega, by go_num, ?_, HB3.out⟩, by simp [intOf]; omega⟩
      rw [HSN.out]; have := HO.out; simpa using this
    · have : j = n := by omega
      subst this
      have HTK : Hid (rs.take j = rs) := List.take_of_length_le (by rw [HN.out]; exact Nat.le_refl _)
      rw [HTK.out] at HOWN
      obtain ⟨hl1, hform⟩ := id HOWN.out
      rcases hform with ⟨_, hn0⟩ | ⟨q, cap, cur, rfl, hq, hblk, hcap, hmx, hsz, htk⟩
      · omega
      have hlines : (linesL m a rs).length = j + 1 := by unfold linesL; rw [List.length_cons, List.length_map, HN.out]
      have hcells : Hid (∀ (i : Nat) y, (linesL m a rs)[i]? = some y → wr.cell? ⟨q, 0 + i, none⟩ = some (.string (strU y))) := fun i y h => by
        have hi : i < j + 1 := by
          rcases Nat.lt_or_ge i (j + 1) with g | g
          · exact g
          · rw [List.getElem?_eq_none (by omega)] at h; cases h
        rw [Nat.zero_add, HOWN.out.cellAt i (by omega), List.getElem?_map]
        unfold linesL at h
        rw [h]; rfl
      have hql := Blk.lt hblk
      have hBl : ∀ y ∈ linesL m a rs, y.length ≤ 70000 := by
        intro y hy
        unfold linesL at hy
        rw [List.mem_cons] at hy
        rcases hy with rfl | hy
        · have e1 := Lib.itoa_length_le m hm.1 hm.2
          have e2 := Lib.itoa_length_le a (by omega) (by omega)
          unfold headL; simp; omega
        · rw [List.mem_map] at hy
          obtain ⟨x, hx', rfl⟩ := hy
          exact fmtRule_len x (HP.out x hx')
      have HB := Lib.hid hb
      clear hblk hsz htk hb hl1
      have hj1 : ((j + 1 : Nat) : Int) = (j : Int) + 1 := by omega
      have HLI := Lib.hid hlines
      clear hlines hj1
      go_wp2_with fail
      have h0 : (⟨#[]⟩ : ByteArray).data.toList = [] := by simp
      refine (join_lit q 0 cap (j + 1) (linesL m a rs) ⟨#[]⟩ [] _ HLI.out h0 hcells.out hql hcap 70000 hBl (by simp; omega) (by omega)).mono ?_
      rintro e w4 ⟨rfl, hb4⟩
      have HB4 := Lib.hid (below_next (below_next hbx.out HB.out) hb4)
      clear hb4
      go_wp2
      go_ret
      exact ⟨rfl, HB4.out⟩
end Go.Proofs.YtiedaongfjcbhabGreatDoor
