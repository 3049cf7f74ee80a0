/- The reference's Format. -/
import Derived.Test.YtiedaongfjcbhabGreatDoorRt2
import Derived.Deep.RegionHeld3
import Derived.BigRegion
import Derived.Deep.LoopGhost
import Derived.Deep.Cut
import Derived.Deep.DeepCutAuto
namespace Go.Proofs.YtiedaongfjcbhabGreatDoor
open Go.RowKit

theorem decimal_lit (n : Int) (h0 : 0 ≤ n) (h : n < 1000) (w : World) :
    Calls Tryz.prog 25 #[.int .i64 n] w fun e w' => e = .returned (.string (strU (Lib.itoa n))) ∧ w = w' := by
  have := decimal_any n.toNat n.toNat w (Nat.le_refl _) (by omega)
  rw [show ((n.toNat : Nat) : Int) = n from by omega, ← itoa_dd n.toNat (by omega), show ((n.toNat : Nat) : Int) = n from by omega] at this
  exact this
theorem rdots_lit (z : Int) (h : 0 ≤ z ∧ z < 64) (w : World) :
    Calls Tryz.prog 26 #[.int .u8 z] w fun e w' => e = .returned (.string (strU (toU (dotsText z.toNat)))) ∧ w = w' := by
  have := rDots_any z.toNat (by omega) w
  rw [show ((z.toNat : Nat) : Int) = z from by omega] at this
  exact this
theorem itoa_len {n : Int} (h0 : 0 ≤ n) (h : n < 1000) : (strU (Lib.itoa n)).size ≤ 3 := by
  have := dd_len (n := n.toNat)
  rw [← itoa_dd n.toNat (by omega), show ((n.toNat : Nat) : Int) = n from by omega] at this
  exact this
/-- The four numbers of a line. -/
def numsN (x : Rule) : List UInt8 := Lib.itoa x.f ++ 32 :: (Lib.itoa x.t ++ 32 :: (Lib.itoa x.l ++ 32 :: (Lib.itoa x.r ++ [32])))
theorem ruleN_eq (x : Rule) : ruleN x ++ [10] = numsN x ++ fmtCells x.c ++ [32] ++ toU (fmtPrint (bytes x.p)) ++ [10] := by
  unfold ruleN numsN; simp
theorem nums_str (D : List UInt8) (x : Rule) : strU D ++ (strU (Lib.itoa x.f) ++ { data := #[32] } ++ strU (Lib.itoa x.t) ++ { data := #[32] } ++ strU (Lib.itoa x.l) ++ { data := #[32] } ++ strU (Lib.itoa x.r) ++ { data := #[32] } : ByteArray) = strU (D ++ numsN x) := by
  have e : ({ data := #[32] } : ByteArray) = strU [32] := rfl
  rw [e]
  simp only [strU_app]
  unfold numsN
  simp
theorem head_str (m a : Int) : ({ data := #[109, 111, 100, 101, 115, 32] } ++ strU (Lib.itoa m) ++ { data := #[32, 97, 99, 99, 101, 112, 116, 32] } ++ strU (Lib.itoa a) ++ { data := #[10] } : ByteArray) = strU (headL m a) := by
  have e1 : ({ data := #[109, 111, 100, 101, 115, 32] } : ByteArray) = strU [109, 111, 100, 101, 115, 32] := rfl
  have e2 : ({ data := #[32, 97, 99, 99, 101, 112, 116, 32] } : ByteArray) = strU [32, 97, 99, 99, 101, 112, 116, 32] := rfl
  have e3 : ({ data := #[10] } : ByteArray) = strU [10] := rfl
  rw [e1, e2, e3]
  simp only [strU_app]
  unfold headL
  simp
theorem fmtCells_snoc (c : List Int) (z : Int) (h : c ≠ []) : fmtCells (c ++ [z]) = fmtCells c ++ [45] ++ toU (dotsText z.toNat) := by
  induction c with
  | nil => exact absurd rfl h
  | cons y r ih =>
    cases r with
    | nil => rw [List.cons_append, List.nil_append, fmtCells_two, fmtCells_one, fmtCells_one]; simp
    | cons v r => rw [List.cons_append, List.cons_append, fmtCells_two, ← List.cons_append, ih (by simp), fmtCells_two]; simp
theorem flat_bound (rs : List Rule) (h : ∀ x ∈ rs, x.plain) (j : Nat) : ((rs.take j).map fmtRule).flatten.length ≤ 70000 * rs.length := by
  have key : ∀ l : List Rule, (∀ x ∈ l, x.plain) → (l.map fmtRule).flatten.length ≤ 70000 * l.length := by
    intro l
    induction l with
    | nil => intro _; simp
    | cons x r ih =>
      intro hl
      have h1 := fmtRule_len x (hl x (by simp))
      have h2 := ih fun y hy => hl y (by simp [hy])
      rw [List.map_cons, List.flatten_cons, List.length_append, List.length_cons]
      omega
  have h1 := key (rs.take j) fun x hx => h x (List.mem_of_mem_take hx)
  have h2 : (rs.take j).length ≤ rs.length := by rw [List.length_take]; omega
  omega
theorem cells_bound (c : List Int) (j : Nat) (h : c.length < 1000) : (fmtCells (c.take j)).length ≤ 7000 := by
  have := join_bound ((c.take j).map fun z : Int => toU (dotsText z.toNat)) [45] 6 (fun y hy => by
    rw [List.mem_map] at hy; obtain ⟨z, _, rfl⟩ := hy; unfold toU; rw [List.length_map]; exact dotsText_len _)
  rw [List.length_map, List.length_take] at this
  unfold fmtCells; simp at this ⊢; omega
theorem nums_len (x : Rule) (h : x.nice) : (numsN x).length ≤ 16 := by
  obtain ⟨h1, h2, h3, h4, h5, h6⟩ := h
  have a1 := itoa_len h5.1 h5.2
  have a2 := itoa_len h6.1 h6.2
  have a3 := itoa_len h3.1 (show x.l < 1000 by omega)
  have a4 := itoa_len h4.1 (show x.r < 1000 by omega)
  rw [strU_size] at a1 a2 a3 a4
  unfold numsN
  simp only [List.length_append, List.length_cons, List.length_nil]
  omega
theorem hex_ext (d : Nat) (h : d < 16) : (⟨#[48, 49, 50, 51, 52, 53, 54, 55, 56, 57, 97, 98, 99, 100, 101, 102]⟩ : ByteArray).extract d (d + 1) = strU (toU [hexI d]) := by
  have := allB_out (n := 16) (p := fun d => decide ((⟨#[48, 49, 50, 51, 52, 53, 54, 55, 56, 57, 97, 98, 99, 100, 101, 102]⟩ : ByteArray).extract d (d + 1) = strU (toU [hexI d]))) (by decide +kernel) d h
  exact of_decide_eq_true this
theorem hex_str (D : List UInt8) (a b : Int) : strU D ++ (strU (toU [a]) ++ strU (toU [b])) = strU (D ++ toU [a, b]) := by
  rw [strU_app, strU_app]; rfl
set_option maxRecDepth 10000 in
set_option maxHeartbeats 4000000 in
theorem rFormat_any (A : Option Addr) (n k : Nat) (m a : Int) (rs : List Rule) (w : World) (hn : rs.length = n) (hx : Rules w w.heap.size A rs) (hmax : n ≤ 10) (ha : 0 ≤ a ∧ a < 256) (hm : 0 ≤ m ∧ m < 1000) (hp : ∀ x ∈ rs, x.nice ∧ x.plain) :
    Calls Tryz.prog 8 #[.agg #[.int .i64 m, .int .u8 a, .slice A n k]] w fun e w' => e = .returned (.string (strU (fmtTable m a rs))) ∧ Below w.heap.size w w' := by
  have HN := Lib.hid hn
  have HP := Lib.hid hp
  clear hn hp
  have hbx := Lib.hid (below_box w #[.int .i64 m, .int .u8 a, .slice A n k] 28)
  have hblk := Blk.new w #[.int .i64 m, .int .u8 a, .slice A n k] 28
  have HX := Lib.hid (hx.up hbx.out)
  clear hx
  have l1 := itoa_len hm.1 hm.2
  have l2 := itoa_len ha.1 (show a < 1000 by omega)
  go_enter Tryz.func8, Tryz.ntmps8
  go_wp2
  generalize w.alloc (.cells #[.int .i64 m, .int .u8 a, .slice A n k] 28) = V at *
  obtain ⟨g, hg⟩ : ∃ g, w.heap.size = g := ⟨_, rfl⟩
  rw [hg] at hblk ⊢
  have hS : Below V.heap.size V V ∧ g < V.heap.size ∧ V.cell? ⟨g, 0, none⟩ = some (.int .i64 m) ∧ V.cell? ⟨g, 1, none⟩ = some (.int .u8 a) ∧ V.cell? ⟨g, 2, none⟩ = some (.slice A n k) := ⟨Below.refl _ _, hblk.lt, by rw [hblk.cell 0]; rfl, by rw [hblk.cell 1]; rfl, by rw [hblk.cell 2]; rfl⟩
  have HG := Lib.hid hg
  clear hblk hg
  have c1 : IntKind.i64.wrap a = a := IntWalk.i64_in _ (by omega)
  have c3 : 0 ≤ a := ha.1
  have c4 : a < 256 := ha.2
  have z0 : ¬ 9223372036854775807 < 6 + (strU (Lib.itoa m)).size := by omega
  have z1 : ¬ 9223372036854775807 < 6 + (strU (Lib.itoa m)).size + 8 := by omega
  have z2 : ¬ 9223372036854775807 < 6 + (strU (Lib.itoa m)).size + 8 + (strU (Lib.itoa a)).size := by omega
  have z3 : ¬ 9223372036854775807 < 6 + (strU (Lib.itoa m)).size + 8 + (strU (Lib.itoa a)).size + 1 := by omega
  have hgV : g < V.heap.size := hS.2.1
  go_cut [4] from 10 to 20 (fun s4 wx => s4 = .string (strU (headL m a)) ∧ Below V.heap.size V wx ∧ wx.cell? ⟨g, 2, none⟩ = some (.slice A n k))
  case first =>
    go_region_held3 (fun w' => Below V.heap.size V w' ∧ g < w'.heap.size ∧ w'.cell? ⟨g, 0, none⟩ = some (.int .i64 m) ∧ w'.cell? ⟨g, 1, none⟩ = some (.int .u8 a) ∧ w'.cell? ⟨g, 2, none⟩ = some (.slice A n k)) (first | assumption | (apply keepT; (first | assumption | exact Below.drew (Below.refl _ _) | exact below_box _ _ _); assumption))
      (first | (go_at_call 25; refine (decimal_lit _ (by omega) (by omega) _).mono ?_; rintro e w1 ⟨rfl, rfl⟩))
    rename_i hheld
    rw [head_str]
    go_wp2_with fail
    go_meet
    exact ⟨rfl, hheld.1, hheld.2.2.2.2⟩
  clear z0 z1 z2 z3
  obtain ⟨rfl, hv, f2⟩ := hcut
  have HV := Lib.hid hv
  have hV2 := hS.2.2.2.2
  clear hS hv c1
  have hd : (headL m a).length ≤ 21 := by
    rw [strU_size] at l1 l2
    unfold headL
    simp only [List.length_append, List.length_cons, List.length_nil]
    omega
  have HD := Lib.hid hd
  have hVs := hbx.out.size
  clear l1 l2 hd
  go_wp2_with fail
  go_loopw [4, 5] (fun v i wr => ∃ j : Nat, j ≤ n ∧ i = .int .i64 j ∧ v = .string (strU (headL m a ++ ((rs.take j).map fmtRule).flatten)) ∧ Below V.heap.size V wr) (fun _ i _ => n - (intOf i).toNat)
  case atStart => exact ⟨0, by omega, rfl, by simp, HV.out⟩
  case round =>
    obtain ⟨j, hj, rfl, rfl, hb⟩ := hrel
    clear HV
    have hs1 := hb.size
    have f2' := (hb.cell (p := ⟨g, 2, none⟩) hgV).trans hV2
    have HB := Lib.hid hb
    clear hb
    by_cases hlt : j < n
    · obtain ⟨b, o, e1, hB1, hc⟩ := HX.out (by have := HN.out; omega)
      subst e1
      obtain ⟨A', k', d0, d1, d2, d3, d4, d5, hs, hf⟩ := (hc j (by have := HN.out; omega)).keep hB1 HB.out
      have HY : Hid (rs[j]? = some (rs[j]'(by have := HN.out; omega))) := List.getElem?_eq_getElem _
      have HPX := Lib.hid (HP.out _ (List.mem_of_getElem? HY.out))
      have HSN : Hid ((rs.take (j + 1)).map fmtRule = (rs.take j).map fmtRule ++ [fmtRule (rs[j]'(by have := HN.out; omega))]) := by
        unfold Hid; rw [List.take_succ_eq_append_getElem (by have := HN.out; omega), List.map_append]; rfl
      have hfb := flat_bound rs (fun x hx => (HP.out x hx).2) j
      clear hc
      generalize rs[j]'(by have := HN.out; omega) = x at *
      have hj0 : (0 : Int) ≤ (j : Int) := by omega
      have hjn : (j : Int) < (n : Int) := by omega
      have HS := Lib.hid hs
      have hgs : g < wr.heap.size := by omega
      obtain ⟨D, hD⟩ : ∃ D, headL m a ++ ((rs.take j).map fmtRule).flatten = D := ⟨_, rfl⟩
      have hDl : (strU D).size ≤ 1000000 := by
        rw [← hD, strU_size, List.length_append]; have := HD.out; have := HN.out; omega
      have HDE := Lib.hid hD
      rw [hD]
      clear hs hf hfb hD
      go_wp2_with fail
      have hbw := Lib.hid (below_box wr #[.string x.p, .slice A' x.c.length k', .int .u8 x.l, .int .u8 x.r, .int .i64 x.f, .int .i64 x.t] 43)
      have HBV := Lib.hid (HB.out.trans (hbw.out.mono hs1))
      have HSW := Lib.hid ((HS.out.more hs1).up hbw.out)
      have hQ := Blk.new wr #[.string x.p, .slice A' x.c.length k', .int .u8 x.l, .int .u8 x.r, .int .i64 x.f, .int .i64 x.t] 43
      generalize wr.alloc (.cells #[.string x.p, .slice A' x.c.length k', .int .u8 x.l, .int .u8 x.r, .int .i64 x.f, .int .i64 x.t] 43) = W at *
      obtain ⟨q, hq⟩ : ∃ q, wr.heap.size = q := ⟨_, rfl⟩
      rw [hq] at hQ ⊢
      obtain ⟨n1, n2, n3, n4, n5, n6⟩ := id HPX.out.1
      have l1 := itoa_len n5.1 n5.2
      have l2 := itoa_len n6.1 n6.2
      have l3 := itoa_len n3.1 (show x.l < 1000 by omega)
      have l4 := itoa_len n4.1 (show x.r < 1000 by omega)
      have l5 := nums_len x HPX.out.1
      have N2 := Lib.hid n2
      clear n1 n2 d0 d1 d2 d3 d4 d5 f2'
      have hS : Below W.heap.size W W ∧ q < W.heap.size ∧ W.cell? ⟨q, 0, none⟩ = some (.string x.p) ∧ W.cell? ⟨q, 1, none⟩ = some (.slice A' x.c.length k') ∧ W.cell? ⟨q, 2, none⟩ = some (.int .u8 x.l) ∧ W.cell? ⟨q, 3, none⟩ = some (.int .u8 x.r) ∧ W.cell? ⟨q, 4, none⟩ = some (.int .i64 x.f) ∧ W.cell? ⟨q, 5, none⟩ = some (.int .i64 x.t) := ⟨Below.refl _ _, hQ.lt, by rw [hQ.cell 0]; rfl, by rw [hQ.cell 1]; rfl, by rw [hQ.cell 2]; rfl, by rw [hQ.cell 3]; rfl, by rw [hQ.cell 4]; rfl, by rw [hQ.cell 5]; rfl⟩
      have w1 : IntKind.i64.wrap x.l = x.l := IntWalk.i64_in _ (by omega)
      have w2 : IntKind.i64.wrap x.r = x.r := IntWalk.i64_in _ (by omega)
      have w3 : 0 ≤ x.l := n3.1
      have w4 : x.l < 256 := n3.2
      have w5 : 0 ≤ x.r := n4.1
      have w6 : x.r < 256 := n4.2
      have z0 : ¬ 9223372036854775807 < (strU (Lib.itoa x.f)).size + 1 := by omega
      have z1 : ¬ 9223372036854775807 < (strU (Lib.itoa x.f)).size + 1 + (strU (Lib.itoa x.t)).size := by omega
      have z2 : ¬ 9223372036854775807 < (strU (Lib.itoa x.f)).size + 1 + (strU (Lib.itoa x.t)).size + 1 := by omega
      have z3 : ¬ 9223372036854775807 < (strU (Lib.itoa x.f)).size + 1 + (strU (Lib.itoa x.t)).size + 1 + (strU (Lib.itoa x.l)).size := by omega
      have z4 : ¬ 9223372036854775807 < (strU (Lib.itoa x.f)).size + 1 + (strU (Lib.itoa x.t)).size + 1 + (strU (Lib.itoa x.l)).size + 1 := by omega
      have z5 : ¬ 9223372036854775807 < (strU (Lib.itoa x.f)).size + 1 + (strU (Lib.itoa x.t)).size + 1 + (strU (Lib.itoa x.l)).size + 1 + (strU (Lib.itoa x.r)).size := by omega
      have z6 : ¬ 9223372036854775807 < (strU (Lib.itoa x.f)).size + 1 + (strU (Lib.itoa x.t)).size + 1 + (strU (Lib.itoa x.l)).size + 1 + (strU (Lib.itoa x.r)).size + 1 := by omega
      have z7 : ¬ 9223372036854775807 < (strU D).size + ((strU (Lib.itoa x.f)).size + 1 + (strU (Lib.itoa x.t)).size + 1 + (strU (Lib.itoa x.l)).size + 1 + (strU (Lib.itoa x.r)).size + 1) := by omega
      have HQ := Lib.hid hq
      clear hQ hq
      go_cut [4] from 33 to 55 (fun s4 wx => s4 = .string (strU (D ++ numsN x)) ∧ Below W.heap.size W wx ∧ q < wx.heap.size ∧ wx.cell? ⟨q, 0, none⟩ = some (.string x.p) ∧ wx.cell? ⟨q, 1, none⟩ = some (.slice A' x.c.length k'))
      case first =>
        go_region_held3 (fun w' => Below W.heap.size W w' ∧ q < w'.heap.size ∧ w'.cell? ⟨q, 0, none⟩ = some (.string x.p) ∧ w'.cell? ⟨q, 1, none⟩ = some (.slice A' x.c.length k') ∧ w'.cell? ⟨q, 2, none⟩ = some (.int .u8 x.l) ∧ w'.cell? ⟨q, 3, none⟩ = some (.int .u8 x.r) ∧ w'.cell? ⟨q, 4, none⟩ = some (.int .i64 x.f) ∧ w'.cell? ⟨q, 5, none⟩ = some (.int .i64 x.t)) (first | assumption | (apply keepF; (first | assumption | exact Below.drew (Below.refl _ _) | exact below_box _ _ _); assumption))
          (first | (go_at_call 25; refine (decimal_lit _ (by omega) (by omega) _).mono ?_; rintro e w1 ⟨rfl, rfl⟩))
        rename_i hheld
        rw [nums_str]
        go_wp2_with fail
        go_meet
        exact ⟨rfl, hheld.1, hheld.2.1, hheld.2.2.1, hheld.2.2.2.1⟩
      clear z0 z1 z2 z3 z4 z5 z6 z7 l1 l2 l3 l4 w1 w2 w3 w4 w5 w6 n3 n4 n5 n6
      obtain ⟨rfl, hw, hqw, g0, g1⟩ := hcut
      have hDn : (strU (D ++ numsN x)).size ≤ 1000020 := by
        rw [strU_size, List.length_append]; rw [strU_size] at hDl; omega
      obtain ⟨E, hE⟩ : ∃ E, D ++ numsN x = E := ⟨_, rfl⟩
      rw [hE] at hDn ⊢
      have HE := Lib.hid hE
      have HW := Lib.hid hw
      clear hE hDl l5 hw hS
      have HSX := Lib.hid (HSW.out.up HW.out)
      have HBX := Lib.hid (HBV.out.trans (HW.out.mono HBV.out.size))
      have HQX := Lib.hid hqw
      have hcl := HPX.out.2.2.1
      clear HS hbw HSW HW hqw HBV f2
      go_wp2_with fail
      go_loop [4, 7] (fun v i => ∃ kk : Nat, kk ≤ x.c.length ∧ i = .int .i64 kk ∧ v = .string (strU (E ++ fmtCells (x.c.take kk)))) (fun _ i => x.c.length - (intOf i).toNat)
      case atStart => exact ⟨0, by omega, rfl, by simp [fmtCells, Lib.join_nil]⟩
      case round =>
        obtain ⟨kk, hk, rfl, rfl⟩ := hrel
        have hcb := cells_bound x.c kk hcl
        obtain ⟨L, hL⟩ : ∃ L, E ++ fmtCells (x.c.take kk) = L := ⟨_, rfl⟩
        have hLl : (strU L).size ≤ 1007020 := by
          rw [← hL, strU_size, List.length_append]; rw [strU_size] at hDn; omega
        by_cases hkl : kk < x.c.length
        · obtain ⟨b1, o1, e1, hB1', c1⟩ := HSX.out (by omega)
          subst e1
          have dk := c1 kk hkl
          have hz := N2.out _ (List.getElem_mem hkl)
          have HTK : Hid (x.c.take (kk + 1) = x.c.take kk ++ [x.c[kk]]) := List.take_succ_eq_append_getElem hkl
          have HNE : Hid (0 < kk → x.c.take kk ≠ []) := fun h0 e => by
            have := congrArg List.length e
            rw [List.length_take] at this
            simp only [List.length_nil] at this
            omega
          have HK := Lib.hid hkl
          generalize x.c[kk] = z at *
          obtain ⟨T, hT⟩ : ∃ T, strU (toU (dotsText z.toNat)) = T := ⟨_, rfl⟩
          have hTs : T.size ≤ 6 := by rw [← hT, strU_size]; unfold toU; rw [List.length_map]; exact dotsText_len _
          have HT := Lib.hid hT
          have HL := Lib.hid hL
          rw [hL]
          have hk0 : (0 : Int) ≤ (kk : Int) := by omega
          have hkn : (kk : Int) < (x.c.length : Int) := by omega
          have hk9 : kk + 1 < 1000 := by omega
          clear c1 hT hL hcb hkl
          by_cases h0 : kk = 0
          · have h0' : ¬ (0 : Int) < (kk : Int) := by omega
            have z0 : ¬ 9223372036854775807 < (strU L).size + T.size := by omega
            have HK0 := Lib.hid h0
            clear h0
            go_wp2_with fail
            refine (rdots_lit z hz _).mono ?_
            rintro e w' ⟨rfl, rfl⟩
            rw [HT.out]
            go_wp2
            have e1 : strU (E ++ fmtCells (x.c.take (kk + 1))) = strU L ++ T := by
              rw [HTK.out, ← HL.out, ← HT.out, strU_app, HK0.out, List.take_zero, List.nil_append, fmtCells_one, show fmtCells [] = [] from rfl, List.append_nil]
            refine ⟨⟨kk + 1, by have := HK.out; omega, by go_num, congrArg Value.string e1.symm⟩, ?_⟩
            have := HK.out
            simp [intOf]; omega
          · have h0' : (0 : Int) < (kk : Int) := by omega
            have z0 : ¬ 9223372036854775807 < (strU L).size + 1 := by omega
            have z1 : ¬ 9223372036854775807 < (strU L).size + 1 + T.size := by omega
            have HNE2 := Lib.hid (HNE.out (by omega))
            clear h0
            go_wp2_with fail
            refine (rdots_lit z hz _).mono ?_
            rintro e w' ⟨rfl, rfl⟩
            rw [HT.out]
            go_wp2
            have e1 : strU (E ++ fmtCells (x.c.take (kk + 1))) = strU L ++ { data := #[45] } ++ T := by
              have e2 : ({ data := #[45] } : ByteArray) = strU [45] := rfl
              rw [HTK.out, fmtCells_snoc _ _ HNE2.out, ← HL.out, ← HT.out, e2, strU_app, strU_app]
              simp
            refine ⟨⟨kk + 1, by have := HK.out; omega, by go_num, congrArg Value.string e1.symm⟩, ?_⟩
            have := HK.out
            simp [intOf]; omega
        · have : kk = x.c.length := by omega
          subst this
          rw [List.take_length] at hL ⊢
          have HL := Lib.hid hL
          rw [hL]
          have z0 : ¬ 9223372036854775807 < (strU L).size + 1 := by omega
          have hpl := HPX.out.2.1
          clear hL hcb hkl hk
          go_wp2_with fail
          rw [show strU L ++ ({ data := #[32] } : ByteArray) = strU (L ++ [32]) from strU_app L [32]]
          obtain ⟨F, hF⟩ : ∃ F, L ++ [32] = F := ⟨_, rfl⟩
          have hFl : (strU F).size ≤ 1007021 := by
            rw [← hF, strU_size, List.length_append]; rw [strU_size] at hLl; simp; omega
          rw [hF]
          have HF := Lib.hid hF
          clear hF hLl z0
          go_loopw [4, 8] (fun v i wq => ∃ kk : Nat, kk ≤ x.p.size ∧ i = .int .i64 kk ∧ v = .string (strU (F ++ toU (hexes ((bytes x.p).take kk)))) ∧ Below wc.heap.size wc wq) (fun _ i _ => x.p.size - (intOf i).toNat)
          case atStart => exact ⟨0, by omega, rfl, by simp [hexes, toU], Below.refl _ _⟩
          case round =>
            obtain ⟨kk, hk, rfl, rfl, hbq⟩ := hrel
            have HBQ := Lib.hid hbq
            have g0' := (hbq.cell (p := ⟨q, 0, none⟩) HQX.out).trans g0
            have hxl : (toU (hexes ((bytes x.p).take kk))).length ≤ 2000 := by
              unfold toU; rw [List.length_map, hexes_len, List.length_take, bytes_len]; omega
            obtain ⟨L2, hL2⟩ : ∃ L2, F ++ toU (hexes ((bytes x.p).take kk)) = L2 := ⟨_, rfl⟩
            have hLl : (strU L2).size ≤ 1009021 := by
              rw [← hL2, strU_size, List.length_append]; rw [strU_size] at hFl; omega
            clear hbq hxl
            by_cases hkl : kk < x.p.size
            · have HAT := Lib.hid (bytes_at x.p kk hkl)
              have hx8 := bytes_lt x.p _ (List.mem_of_getElem? (bytes_at x.p kk hkl))
              have HSNX := Lib.hid (hexes_snoc HAT.out)
              have HK := Lib.hid hkl
              generalize hxe : (x.p[kk]'hkl).toNat = y at *
              obtain ⟨ya, hya⟩ : ∃ ya, y / 16 = ya := ⟨_, rfl⟩
              obtain ⟨yr, hyr⟩ : ∃ yr, y % 16 = yr := ⟨_, rfl⟩
              rw [hya, hyr] at HSNX
              have ta := hex_ext ya (by omega)
              have tr := hex_ext yr (by omega)
              have HXS := Lib.hid (hex_str L2 (hexI ya) (hexI yr))
              have sa : (strU (toU [hexI ya])).size = 1 := by rw [strU_size]; rfl
              have sr : (strU (toU [hexI yr])).size = 1 := by rw [strU_size]; rfl
              generalize strU (toU [hexI ya]) = Ta at *
              generalize strU (toU [hexI yr]) = Tr at *
              have m1 : (y : Int) / 16 = (ya : Int) := by omega
              have m2 : (y : Int) % 16 = (yr : Int) := by omega
              have m3 : Int.tmod (y : Int) 16 = (yr : Int) := by rw [Int.tmod_eq_emod_of_nonneg (by omega)]; exact m2
              have m4 : Int.tdiv (y : Int) 16 = (ya : Int) := by rw [Int.tdiv_eq_ediv_of_nonneg (by omega)]; exact m1
              have m5 : (ya : Int) < 16 := by omega
              have m6 : (yr : Int) < 16 := by omega
              have hk0 : (0 : Int) ≤ (kk : Int) := by omega
              have hkn : (kk : Int) < (x.p.size : Int) := by omega
              have z0 : ¬ 9223372036854775807 < Ta.size + Tr.size := by omega
              have z1 : ¬ 9223372036854775807 < (strU L2).size + (Ta.size + Tr.size) := by omega
              have HL2 := Lib.hid hL2
              rw [hL2]
              clear hL2 hya hyr
              go_wp2_with fail
              have n1 : (0 : Int) ≤ (ya : Int) := by omega
              have n2 : (0 : Int) ≤ (yr : Int) := by omega
              have n3 : IntKind.i64.wrap ((ya : Int) + 1) = (ya : Int) + 1 := IntWalk.i64_in _ (by omega)
              have n4 : IntKind.i64.wrap ((yr : Int) + 1) = (yr : Int) + 1 := IntWalk.i64_in _ (by omega)
              go_region
              go_wp2_with fail
              refine ⟨⟨kk + 1, by have := HK.out; omega, by go_num, congrArg Value.string ?_, Below.drew HBQ.out⟩, ?_⟩
              · rw [HXS.out, ← HL2.out, HSNX.out]
                unfold toU
                rw [List.map_append, List.append_assoc]
              · have := HK.out; simp [intOf]; omega
            · have : kk = x.p.size := by omega
              subst this
              have HTA : Hid ((bytes x.p).take x.p.size = bytes x.p) := List.take_of_length_le (by rw [bytes_len]; exact Nat.le_refl _)
              rw [HTA.out] at hL2 ⊢
              rw [hL2]
              have hBW := Lib.hid (HBX.out.trans (HBQ.out.mono HBX.out.size))
              have HLN := Lib.hid (ruleN_eq x)
              have HL2 := Lib.hid hL2
              have HJ := Lib.hid hlt
              clear hL2 hkl hk
              by_cases hp0 : x.p.size = 0
              · have hb0 : bytes x.p = [] := List.eq_nil_of_length_eq_zero (by rw [bytes_len]; exact hp0)
                have hp1 : (x.p.size : Int) = 0 := by omega
                have z0 : ¬ 9223372036854775807 < (strU L2).size + 1 := by omega
                have z1 : ¬ 9223372036854775807 < (strU L2).size + 1 + 1 := by omega
                have HB0 := Lib.hid hb0
                have HFIN : Hid (strU (headL m a ++ ((rs.take (j + 1)).map fmtRule).flatten) = strU L2 ++ { data := #[46] } ++ { data := #[10] }) := by
                  have e1 : ({ data := #[46] } : ByteArray) = strU [46] := rfl
                  have e2 : ({ data := #[10] } : ByteArray) = strU [10] := rfl
                  unfold Hid
                  rw [e1, e2, strU_app, strU_app, ← HL2.out, ← HF.out, ← HL.out, ← HE.out, ← HDE.out, HSN.out, List.flatten_append, fmtRule_eq, HLN.out, HB0.out]
                  unfold fmtPrint
                  rw [if_pos rfl]
                  simp [hexes, toU]
                clear hb0 hp0
                go_wp2_with fail
                refine ⟨⟨j + 1, by have := HJ.out; omega, by go_num, congrArg Value.string HFIN.out.symm, hBW.out⟩, ?_⟩
                have := HJ.out; simp [intOf]; omega
              · have hb0 : ¬ bytes x.p = [] := fun e => hp0 (by rw [← bytes_len, e]; rfl)
                have hp1 : ¬ (x.p.size : Int) = 0 := by omega
                have z0 : ¬ 9223372036854775807 < (strU L2).size + 1 := by omega
                have HB0 := Lib.hid hb0
                have HFIN : Hid (strU (headL m a ++ ((rs.take (j + 1)).map fmtRule).flatten) = strU L2 ++ { data := #[10] }) := by
                  have e2 : ({ data := #[10] } : ByteArray) = strU [10] := rfl
                  unfold Hid
                  rw [e2, strU_app, ← HL2.out, ← HF.out, ← HL.out, ← HE.out, ← HDE.out, HSN.out, List.flatten_append, fmtRule_eq, HLN.out]
                  unfold fmtPrint
                  rw [if_neg HB0.out]
                  simp
                clear hb0 hp0
                go_wp2_with fail
                refine ⟨⟨j + 1, by have := HJ.out; omega, by go_num, congrArg Value.string HFIN.out.symm, hBW.out⟩, ?_⟩
                have := HJ.out; simp [intOf]; omega
    · have : j = n := by omega
      subst this
      have HTK : Hid (rs.take j = rs) := List.take_of_length_le (by rw [HN.out]; exact Nat.le_refl _)
      rw [HTK.out]
      have HE : Hid (strU (headL m a ++ (rs.map fmtRule).flatten) = strU (fmtTable m a rs)) := by
        unfold Hid; rw [fmtTable_eq, headL_eq]; simp
      rw [HE.out]
      have HBW := Lib.hid (below_next hbx.out HB.out)
      go_wp2_with fail
      go_ret
      exact ⟨rfl, HBW.out⟩
end Go.Proofs.YtiedaongfjcbhabGreatDoor
