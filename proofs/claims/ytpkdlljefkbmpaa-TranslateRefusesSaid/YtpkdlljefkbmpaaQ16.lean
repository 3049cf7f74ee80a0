/- Merged by program: Gr5 Gr6 Gr7 Gr8 Gr9 -/
import Derived.Test.YtpkdlljefkbmpaaQ15
import Derived.Deep.LoopGhost
import Derived.Deep.CutBlock

/-! Package automaton: explore. -/
namespace Go.Proofs.Ytpkdlljefkbmpaa
open Go.RowKit Go.Maps

theorem _root_.Go.World.grownBy.cell_at {w w' : World} {row : Option Nat} {b o : Nat} (h : w.grownBy w' row) (hb : b < w.heap.size) (hne : row ≠ some b) : w'.cell? ⟨b, o, none⟩ = w.cell? ⟨b, o, none⟩ := World.cell?_of_block (a := ⟨b, o, none⟩) (h.block b hb (Ne.symm hne))
theorem insS_grow (L : List St) (s : St) : L.length ≤ (insS L s).length := by
  unfold insS; split
  · exact Nat.le_refl _
  · simp
theorem row_grow {rs : List Rule} {i : Nat} {s : St} (G : Gr) : ∀ n, G.1.length ≤ (rowG rs i s n G).1.length := by
  intro n
  induction n with
  | zero => exact Nat.le_refl _
  | succ n ih =>
    refine Nat.le_trans ih ?_
    show _ ≤ (edgeG rs i s n (rowG rs i s n G)).1.length
    unfold edgeG
    split
    · exact insS_grow _ _
    · exact Nat.le_refl _
/-- What an operation of the last region of a round leaves. -/
def phiE (n4 q bb kx j : Nat) (BV vv : Value) (i : Nat) (v : Value) (w : World) : Prop := match i with
  | 0 => v = .pointer (some ⟨q, 1, none⟩)
  | 1 => v = BV
  | 2 => v = .int .i64 kx
  | 3 => v = .pointer (some ⟨q, 1, none⟩)
  | 4 => v = BV
  | 5 => v = .int .i64 kx
  | 6 => v = .pointer (some ⟨bb, kx, none⟩)
  | 7 => v = vv
  | 8 => v = .int .i64 j
  | 9 => ∃ b, v = .slice (some ⟨b, 0, none⟩) 1 1 ∧ Blk w b 3 #[.int .i64 j] ∧ n4 ≤ b
  | _ => True
/-- Where the memory stands in it. -/
def stE (w4 : World) (vv : Value) (ll : List Nat) (j : Nat) (b : Nat → Bool) (y : Nat → Value) (w : World) : Prop :=
  w4.grownBy w vv.ownBlock ∧ (b 10 = false → w.ownsRow 0 3 1 vv ll.length (ll.map fun i : Nat => Value.int .i64 i)) ∧
  (b 10 = true → w.ownsRow 0 3 1 (y 10) (ll.length + 1) ((ll.map fun i : Nat => Value.int .i64 i) ++ [.int .i64 j]) ∧ ((y 10).ownBlock = vv.ownBlock ∨ ∃ b, (y 10).ownBlock = some b ∧ w4.heap.size ≤ b))
theorem stE.set {w4 w w' : World} {vv : Value} {ll : List Nat} {j i : Nat} {b : Nat → Bool} {y : Nat → Value} {v : Value} (h : stE w4 vv ll j b y w) (hi : i ≠ 10) (hb : ∀ g, g < w.heap.size → w'.heap[g]? = w.heap[g]?) (hs : w.heap.size ≤ w'.heap.size) (hu : w'.os = w.os ∧ w'.tape = w.tape ∧ w'.output = w.output) :
    stE w4 vv ll j (fun j => if j = i then true else b j) (upd y i v) w' := by
  obtain ⟨h1, h2, h3⟩ := h
  have e1 : (if 10 = i then true else b 10) = b 10 := if_neg (fun e => hi e.symm)
  have e2 : upd y i v 10 = y 10 := by unfold upd; exact if_neg (fun e => hi e.symm)
  have hm : ∀ {base n : Nat} {e : TypeId} {x : Value} {xs : List Value}, w.ownsRow base e 1 x n xs → w'.ownsRow base e 1 x n xs := fun ho => own_move ho fun g hg => by
    obtain ⟨cur, hc⟩ := own_blk ho hg
    exact hb g hc.lt
  refine ⟨⟨hu.1.trans h1.os, hu.2.1.trans h1.tape, hu.2.2.trans h1.output, Nat.le_trans h1.size hs, fun g hg hne => (hb g (Nat.lt_of_lt_of_le hg h1.size)).trans (h1.block g hg hne)⟩, fun hf => hm (h2 (by rw [← e1]; exact hf)), fun hf => ?_⟩
  rw [e2]
  obtain ⟨g1, g2⟩ := h3 (by rw [← e1]; exact hf)
  exact ⟨hm g1, g2⟩
theorem stE.same {w4 w : World} {vv : Value} {ll : List Nat} {j i : Nat} {b : Nat → Bool} {y : Nat → Value} {v : Value} (h : stE w4 vv ll j b y w) (hi : i ≠ 10) : stE w4 vv ll j (fun j => if j = i then true else b j) (upd y i v) w := h.set hi (fun _ _ => rfl) (Nat.le_refl _) ⟨rfl, rfl, rfl⟩
theorem gr_end {rs : List Rule} {G : Gr} {w wr : World} {p q mb : Nat} {SV BV v0 v1 v2 : Value} {vs : List Value} {D : DataW Unit} (hp : w.heap.size = p) (hG : theG rs = G) (hb : Below p w wr) (hg : GB (fun b => b < p + 2) wr q mb G.1 G.2 SV BV vs D) :
    GrEnd rs w (.returned (.agg #[SV, BV, .map (some mb)])) (((wr.setCell ⟨p + 1, 0, none⟩ v0).setCell ⟨p + 1, 1, none⟩ v1).setCell ⟨p + 1, 2, none⟩ v2) := by
  subst hp hG
  have key : ∀ b, b ≠ w.heap.size + 1 → (((wr.setCell ⟨w.heap.size + 1, 0, none⟩ v0).setCell ⟨w.heap.size + 1, 1, none⟩ v1).setCell ⟨w.heap.size + 1, 2, none⟩ v2).heap[b]? = wr.heap[b]? := fun b hb =>
    ((Below.heap_setCell _ ⟨w.heap.size + 1, 2, none⟩ v2 b hb).trans (Below.heap_setCell _ ⟨w.heap.size + 1, 1, none⟩ v1 b hb)).trans (Below.heap_setCell _ ⟨w.heap.size + 1, 0, none⟩ v0 b hb)
  refine ⟨SV, BV, mb, vs, D, q, rfl, (hg.move fun b _ hK => key b (fun e => hK (by show b < _; omega))).more (fun b hb => .inl (by show b < w.heap.size + 2; have : b < w.heap.size := hb; omega)), ?_⟩
  exact ((hb.setCell (by show w.heap.size ≤ w.heap.size + 1; omega) _).setCell (by show w.heap.size ≤ w.heap.size + 1; omega) _).setCell (by show w.heap.size ≤ w.heap.size + 1; omega) _
set_option maxRecDepth 10000 in
set_option maxHeartbeats 2000000 in
theorem explore_any (m a : Int) (A : Option Addr) (n k : Nat) (rs : List Rule) (w : World) (hn : rs.length = n) (hR : Rules w w.heap.size A rs) (hG : GoodL m a rs) (hmax : n ≤ 64) (hm : 1 ≤ m ∧ m ≤ 8) :
    Calls Try.prog 159 #[.agg #[.int .i64 m, .int .u8 a, .slice A n k]] w (GrEnd rs w) := by
  have hmm := @run_makeMap Try.prog
  have HP := Lib.hid (explore_pre w m a A n k)
  have HN := Lib.hid hn
  have HR := Lib.hid hR
  have HG := Lib.hid hG
  clear hn hR hG
  go_enter Try.func159, Try.ntmps159
  go_wp2_with fail
  generalize ((((w.alloc (.cells #[.int .i64 m, .int .u8 a, .slice A n k] 30)).alloc (.cells #[.slice none 0 0, .slice none 0 0, .map none] 238)).alloc (.map #[] 0)).alloc (.cells #[.slice none 0 0, .slice none 0 0, .map (some (w.heap.size + 1 + 1))] 238)) = V at *
  clear hmm
  obtain ⟨p, hp⟩ : ∃ p, w.heap.size = p := ⟨_, rfl⟩
  have HW := Lib.hid hp
  rw [hp] at HP HR
  simp only [hp]
  clear hp
  refine (start_any V).mono ?_
  rintro e w1 ⟨rfl, hb1⟩
  rw [show St.start.val = .agg #[.int .i64 0, .int .i64 0, .int .u8 63] from rfl]
  have HK : Hid (∀ b, b < p + 2 → b < w1.heap.size) := fun b hb => by have := hb1.size; have := HP.out.2.2.2.2; omega
  have HGA : Hid (GA (fun b => b < p + 2) w1 (p + 1 + 1 + 1) (p + 1 + 1) [] []) := ⟨_, _, _, _, HP.out.2.2.1.move fun b hb _ => hb1.block b hb⟩
  have B1 : Hid (Below p w w1) := HP.out.2.2.2.1.trans (hb1.mono (by have := HP.out.2.2.2.2; omega))
  have T1 : Hid (Blk w1 p 30 #[.int .i64 m, .int .u8 a, .slice A n k]) := HP.out.1.keep hb1 HP.out.1.lt
  have Z1 : Hid (Blk w1 (p + 1) 238 #[.slice none 0 0, .slice none 0 0, .map none]) := HP.out.2.1.keep hb1 HP.out.2.1.lt
  clear hb1
  go_wp2_with fail
  refine (place_any (fun b => b < p + 2) (p + 1 + 1 + 1) (p + 1 + 1) [] [] St.start w1 HK.out HGA.out ⟨by decide, by decide, by decide⟩ (by decide)).mono ?_
  rintro e w2 ⟨rfl, hGA2, hK2⟩
  rw [show insS [] St.start = startG.1 from rfl, show insB [] [] St.start = startG.2 from rfl] at hGA2
  have B2 : Hid (Below p w w2) := B1.out.trans ⟨hK2.1, hK2.2.1, hK2.2.2.1, hK2.2.2.2.1, fun b hb => hK2.2.2.2.2 b (by show b < p + 2; omega)⟩
  have T2 : Hid (Blk w2 p 30 #[.int .i64 m, .int .u8 a, .slice A n k]) := (hK2.2.2.2.2 p (by show p < p + 2; omega)).trans T1.out
  have Z2 : Hid (Blk w2 (p + 1) 238 #[.slice none 0 0, .slice none 0 0, .map none]) := (hK2.2.2.2.2 (p + 1) (by show p + 1 < p + 2; omega)).trans Z1.out
  have HGA2 := Lib.hid hGA2
  have HS0 : Hid (OkG m startG) := startG_ok hm.1
  have HFT : Hid (∀ x ∈ rs, x.fits) := HR.out.fit
  clear hGA2 hK2 B1 T1 Z1 HGA HK HP
  go_wp2_with fail
  go_loopw [4] (fun x wr => ∃ (j : Nat) (G : Gr), x = .int .i64 j ∧ j ≤ G.1.length ∧ OkG m G ∧ expG rs (4000 - j) j G = theG rs ∧ LenB G.2 (64 * j) ∧ GA (fun b => b < p + 2) wr (p + 1 + 1 + 1) (p + 1 + 1) G.1 G.2 ∧ Below p w wr ∧ Blk wr p 30 #[.int .i64 m, .int .u8 a, .slice A n k] ∧ Blk wr (p + 1) 238 #[.slice none 0 0, .slice none 0 0, .map none]) (fun x _ => 4000 - (intOf x).toNat)
  case atStart => exact ⟨0, startG, rfl, Nat.zero_le _, HS0.out, rfl, fun l hl => (by simp [startG] at hl; subst hl; simp), HGA2.out, B2.out, T2.out, Z2.out⟩
  case round =>
    obtain ⟨j, G, rfl, hj, hok, hex, hln, hga, hb, ht, hz⟩ := hrel
    have HLN := Lib.hid hln
    clear hln
    clear HGA2 B2 T2 Z2 HS0
    obtain ⟨SV, BV, vs, D, hg⟩ := hga
    obtain ⟨A1, k1, rfl⟩ := own_shape hg.sv
    have hle := hok.le ⟨by omega, hm.2⟩
    have c0 := hg.blk.cell 0
    have t2 := ht.cell 2
    simp only [List.getElem?_toArray, List.getElem?_cons_zero, List.getElem?_cons_succ] at c0 t2
    have HG1 := Lib.hid hg
    have HB := Lib.hid hb
    have HT := Lib.hid ht
    have HZ := Lib.hid hz
    have HOK := Lib.hid hok
    have HEX := Lib.hid hex
    clear hg hb ht hz hok hex
    by_cases hlt : j < G.1.length
    · obtain ⟨b, rfl, hbl, s0, s1, s2⟩ := st_cells HG1.out.sv hlt
      have HSJ : Hid (G.1[j]? = some (G.1[j]'hlt)) := List.getElem?_eq_getElem hlt
      have hsok : Hid ((G.1[j]'hlt).ok m) := HOK.out.1 _ (List.getElem_mem hlt)
      generalize G.1[j]'hlt = st at *
      obtain ⟨mo, la, ne⟩ := st
      dsimp only at s0 s1 s2
      have HL := Lib.hid hlt
      have hj0 : (0 : Int) ≤ (j : Int) := by omega
      have hjn : (j : Int) < (G.1.length : Int) := by omega
      go_upto_region 7 with fail
      have Q1 : Hid (Blk (wr.alloc (.cells #[.int .i64 mo, .int .i64 la, .int .u8 ne] 47)) wr.heap.size 47 #[.int .i64 mo, .int .i64 la, .int .u8 ne]) := Blk.new _ _ _
      have BX := below_box wr #[.int .i64 mo, .int .i64 la, .int .u8 ne] 47
      have G2 : Hid (GB (fun b => b < p + 2 ∨ b = wr.heap.size) (wr.alloc (.cells #[.int .i64 mo, .int .i64 la, .int .u8 ne] 47)) (p + 1 + 1 + 1) (p + 1 + 1) G.1 G.2 (.slice (some ⟨b, 0, none⟩) G.1.length k1) BV vs D) := (HG1.out.more (K' := fun b => b < p + 2 ∨ b = wr.heap.size) (fun b hb => by rcases hb with h | h; exact .inl h; exact .inr (by omega))).move fun b hb _ => BX.block b hb
      have hp2 : p + 2 ≤ wr.heap.size := by have := HZ.out.lt; omega
      have HB2 : Hid (Below p w (wr.alloc (.cells #[.int .i64 mo, .int .i64 la, .int .u8 ne] 47))) := HB.out.trans (BX.mono (by omega))
      have HT2 := Lib.hid (HT.out.box (vs := #[.int .i64 mo, .int .i64 la, .int .u8 ne]) (e := 47))
      have HZ2 := Lib.hid (HZ.out.box (vs := #[.int .i64 mo, .int .i64 la, .int .u8 ne]) (e := 47))
      have hsz : (wr.alloc (.cells #[.int .i64 mo, .int .i64 la, .int .u8 ne] 47)).heap.size = wr.heap.size + 1 := by simp
      generalize wr.alloc (.cells #[.int .i64 mo, .int .i64 la, .int .u8 ne] 47) = wa at *
      obtain ⟨c, hc⟩ : ∃ c, wr.heap.size = c := ⟨_, rfl⟩
      rw [hc] at Q1 G2 hsz hp2 ⊢
      clear BX HG1 HB HT HZ c0 s0 s1 s2 hbl
      have t2' := HT2.out.cell 2
      simp only [List.getElem?_toArray, List.getElem?_cons_zero, List.getElem?_cons_succ] at t2'
      have HGA : Hid (GA (fun b => b < p + 2 ∨ b = c) wa (p + 1 + 1 + 1) (p + 1 + 1) G.1 G.2) := ⟨_, _, _, _, G2.out⟩
      clear G2 t2
      go_wp2_with fail
      go_loopw [29] (fun x wx => ∃ r : Nat, x = .int .i64 r ∧ r ≤ n ∧ GA (fun b => b < p + 2 ∨ b = c) wx (p + 1 + 1 + 1) (p + 1 + 1) (rowG rs j ⟨mo, la, ne⟩ r G).1 (rowG rs j ⟨mo, la, ne⟩ r G).2 ∧ Below p w wx ∧ Blk wx p 30 #[.int .i64 m, .int .u8 a, .slice A n k] ∧ Blk wx (p + 1) 238 #[.slice none 0 0, .slice none 0 0, .map none] ∧ Blk wx c 47 #[.int .i64 mo, .int .i64 la, .int .u8 ne]) (fun x _ => n - (intOf x).toNat)
      case atStart => exact ⟨0, rfl, Nat.zero_le _, HGA.out, HB2.out, HT2.out, HZ2.out, Q1.out⟩
      case round =>
        obtain ⟨r, rfl, hr, hga, hb, ht, hz, hq⟩ := hrel
        clear HGA HB2 HT2 HZ2 Q1 t2' hsz
        by_cases hrn : r < n
        · have hRw : Rules wr wr.heap.size A rs := (HR.out.keep hb).more (by have := hb.size; have := HW.out; omega)
          have hHok := row_ok HG.out HFT.out (i := j) hsok.out HOK.out r
          obtain ⟨H, hH⟩ : ∃ H, rowG rs j ⟨mo, la, ne⟩ r G = H := ⟨_, rfl⟩
          rw [hH] at hga hHok
          have hHle := hHok.le ⟨by omega, hm.2⟩
          obtain ⟨sr, hsr⟩ : ∃ sr, stepS rs ⟨mo, la, ne⟩ (r : Int) = sr := ⟨_, rfl⟩
          have HLR : Hid (LenB H.2 (64 * j + r)) := by rw [← hH]; exact row_len HLN.out r
          have HNX : Hid (rowG rs j ⟨mo, la, ne⟩ (r + 1) G = if sr.2 = true ∧ sr.1 ≠ ⟨mo, la, ne⟩ then (insS H.1 sr.1, addB (insB H.1 H.2 sr.1) (H.1.idxOf sr.1) j) else H) := by
            unfold Hid; rw [← hsr, ← hH]; rfl
          have hts : Hid (sr.2 = true → sr.1.ok m) := fun h => by rw [← hsr] at h ⊢; exact step_ok HG.out HFT.out hsok.out h
          have a0 := ht.cell 0
          have a1 := ht.cell 1
          have a2 := ht.cell 2
          have b0 := hq.cell 0
          have b1 := hq.cell 1
          have b2 := hq.cell 2
          simp only [List.getElem?_toArray, List.getElem?_cons_zero, List.getElem?_cons_succ] at a0 a1 a2 b0 b1 b2
          have HRW := Lib.hid hRw
          have HGA := Lib.hid hga
          have HB := Lib.hid hb
          have HT := Lib.hid ht
          have HZ := Lib.hid hz
          have HQ := Lib.hid hq
          have HHOK := Lib.hid hHok
          have HH := Lib.hid hH
          have HSR := Lib.hid hsr
          have HRN := Lib.hid hrn
          have hrn' : (r : Int) < (n : Int) := by omega
          have hr0 : (0 : Int) ≤ (r : Int) := by omega
          clear hRw hga hb ht hz hq hHok hH hsr
          go_wp2_with fail
          refine (step_any m a A n k rs ⟨mo, la, ne⟩ r HN.out (hsok.out.fit hm.2) (by omega) wr HRW.out).mono ?_
          rintro e wb ⟨rfl, hbb⟩
          rw [HSR.out]
          obtain ⟨⟨ta, tb, tc⟩, ok⟩ := sr
          have HBB := Lib.hid hbb
          clear hbb a0 a1 a2 b0 b1 b2
          unfold St.val
          dsimp only
          go_upto_region 11 with fail
          have BX : Below wr.heap.size wr (wb.alloc (.cells #[.int .i64 ta, .int .i64 tb, .int .u8 tc] 47)) := HBB.out.alloc HBB.out.size _
          have DX : Hid (Blk (wb.alloc (.cells #[.int .i64 ta, .int .i64 tb, .int .u8 tc] 47)) wb.heap.size 47 #[.int .i64 ta, .int .i64 tb, .int .u8 tc]) := Blk.new _ _ _
          have T3 := Lib.hid (HT.out.keep BX HT.out.lt)
          have Z3 := Lib.hid (HZ.out.keep BX HZ.out.lt)
          have Q3 := Lib.hid (HQ.out.keep BX HQ.out.lt)
          have GA3 := Lib.hid (HGA.out.move fun b hb _ => BX.block b hb)
          have B3 : Hid (Below p w (wb.alloc (.cells #[.int .i64 ta, .int .i64 tb, .int .u8 tc] 47))) := HB.out.trans (BX.mono (by have := HT.out.lt; omega))
          have hds : wr.heap.size ≤ wb.heap.size := HBB.out.size
          have hdx : (wb.alloc (.cells #[.int .i64 ta, .int .i64 tb, .int .u8 tc] 47)).heap.size = wb.heap.size + 1 := by simp
          have hcw := HQ.out.lt
          generalize wb.alloc (.cells #[.int .i64 ta, .int .i64 tb, .int .u8 tc] 47) = wd at *
          obtain ⟨d, hd⟩ : ∃ d, wb.heap.size = d := ⟨_, rfl⟩
          rw [hd] at DX hds hdx ⊢
          clear BX HRW HGA HB HT HZ HQ HBB
          have d0 := DX.out.cell 0
          have d1 := DX.out.cell 1
          have d2 := DX.out.cell 2
          have b0 := Q3.out.cell 0
          have b1 := Q3.out.cell 1
          have b2 := Q3.out.cell 2
          simp only [List.getElem?_toArray, List.getElem?_cons_zero, List.getElem?_cons_succ] at d0 d1 d2 b0 b1 b2
          cases ok
          · have HE : Hid (rowG rs j ⟨mo, la, ne⟩ (r + 1) G = H) := by unfold Hid; rw [HNX.out]; simp
            clear HNX
            go_wp2_with fail
            refine ⟨⟨r + 1, by go_num, by have := HRN.out; omega, by rw [HE.out]; exact GA3.out, B3.out, T3.out, Z3.out, Q3.out⟩, ?_⟩
            have := HRN.out; simp [intOf]; omega
          · by_cases hse : (⟨ta, tb, tc⟩ : St) = ⟨mo, la, ne⟩
            · have HE : Hid (rowG rs j ⟨mo, la, ne⟩ (r + 1) G = H) := by unfold Hid; rw [HNX.out]; simp [hse]
              injection hse with h1 h2 h3
              subst h1 h2 h3
              clear HNX
              go_wp2_with fail
              refine ⟨⟨r + 1, by go_num, by have := HRN.out; omega, by rw [HE.out]; exact GA3.out, B3.out, T3.out, Z3.out, Q3.out⟩, ?_⟩
              have := HRN.out; simp [intOf]; omega
            · have HE : Hid (rowG rs j ⟨mo, la, ne⟩ (r + 1) G = (insS H.1 ⟨ta, tb, tc⟩, addB (insB H.1 H.2 ⟨ta, tb, tc⟩) (H.1.idxOf ⟨ta, tb, tc⟩) j)) := by unfold Hid; rw [HNX.out]; simp [hse]
              have HSE := Lib.hid hse
              clear HNX hse
              go_cut [44] from 39 to 44 (fun s44 wx => s44 = .bool true ∧ wx = wd)
              case first =>
                by_cases h1 : ta = mo
                · subst h1
                  by_cases h2 : tb = la
                  · subst h2
                    have h3 : ¬ tc = ne := fun e => HSE.out (by rw [e])
                    go_wp2_with fail
                    go_meet
                    exact ⟨rfl, rfl⟩
                  · go_wp2_with fail
                    go_meet
                    exact ⟨rfl, rfl⟩
                · go_wp2_with fail
                  go_meet
                  exact ⟨rfl, rfl⟩
              case rest =>
                obtain ⟨rfl, rfl⟩ := hcut
                clear b0 b1 b2
                go_wp2_with fail
                have hKw : ∀ b, (b < p + 2 ∨ b = c) → b < wc.heap.size := fun b hb => by rcases hb with h | h <;> omega
                refine (place_any (fun b => b < p + 2 ∨ b = c) (p + 1 + 1 + 1) (p + 1 + 1) H.1 H.2 ⟨ta, tb, tc⟩ wc hKw GA3.out ((hts.out trivial).fit hm.2) (by omega)).mono ?_
                rintro e w4 ⟨rfl, hga4, hk4⟩
                have hKw4 : Hid (∀ b, (b < p + 2 ∨ b = c) → b < w4.heap.size) := fun b hb => by have := hKw b hb; have := hk4.2.2.2.1; omega
                have B4 : Hid (Below p w w4) := B3.out.trans ⟨hk4.1, hk4.2.1, hk4.2.2.1, hk4.2.2.2.1, fun b hb => hk4.2.2.2.2 b (Or.inl (by omega))⟩
                have T4 : Hid (Blk w4 p 30 #[.int .i64 m, .int .u8 a, .slice A n k]) := (hk4.2.2.2.2 p (Or.inl (by omega))).trans T3.out
                have Z4 : Hid (Blk w4 (p + 1) 238 #[.slice none 0 0, .slice none 0 0, .map none]) := (hk4.2.2.2.2 (p + 1) (Or.inl (by omega))).trans Z3.out
                have Q4 : Hid (Blk w4 c 47 #[.int .i64 mo, .int .i64 la, .int .u8 ne]) := (hk4.2.2.2.2 c (Or.inr rfl)).trans Q3.out
                clear T3 Z3 Q3 GA3 B3 DX d0 d1 d2 hk4 hdx hKw
                obtain ⟨SV4, BV4, vs4, D4, hg4⟩ := hga4
                obtain ⟨Bn, hBn⟩ : ∃ Bn, insB H.1 H.2 ⟨ta, tb, tc⟩ = Bn := ⟨_, rfl⟩
                obtain ⟨Ln, hLn⟩ : ∃ Ln, insS H.1 ⟨ta, tb, tc⟩ = Ln := ⟨_, rfl⟩
                have hkx : H.1.idxOf ⟨ta, tb, tc⟩ < Ln.length := by
                  rw [← hLn]
                  by_cases hm : (⟨ta, tb, tc⟩ : St) ∈ H.1
                  · rw [insS_old hm]; exact List.idxOf_lt_length_iff.2 hm
                  · rw [insS_new hm, idx_new hm]; simp
                have hlenB : LenB Bn (64 * j + r) := by
                  rw [← hBn]; unfold insB; split
                  · exact HLR.out
                  · intro l hl
                    rcases List.mem_append.1 hl with g | g
                    · exact HLR.out l g
                    · simp at g; subst g; simp
                rw [hBn, hLn] at hg4 HE
                obtain ⟨kx, hkxe⟩ : ∃ kx, H.1.idxOf ⟨ta, tb, tc⟩ = kx := ⟨_, rfl⟩
                rw [hkxe] at hkx HE ⊢
                have hkb : kx < Bn.length := by have := hg4.len; omega
                obtain ⟨Ab, kb, rfl⟩ := own_shape hg4.bv
                obtain ⟨bb, hAb⟩ : ∃ bb, Ab = some ⟨bb, 0, none⟩ := by
                  rcases hg4.bv.2 with ⟨_, h0⟩ | ⟨g, cap, cur, e, _⟩
                  · omega
                  · injection e with e1; exact ⟨g, e1⟩
                subst hAb
                have hvl := hg4.vlen
                have hvs : vs4[kx]? = some (vs4[kx]'(by omega)) := List.getElem?_eq_getElem _
                have hls : Bn[kx]? = some (Bn[kx]'hkb) := List.getElem?_eq_getElem _
                have hll := hlenB _ (List.getElem_mem hkb)
                generalize Bn[kx]'hkb = ll at *
                generalize vs4[kx]'(by omega) = vv at *
                obtain ⟨Av, kv, rfl⟩ := own_shape (hg4.row kx vv ll hvs hls)
                have hrow := hg4.row kx _ ll hvs hls
                have hbc := hg4.bv.cellAt kx (by omega)
                have hq1 := hg4.blk.cell 1
                simp only [List.getElem?_toArray, List.getElem?_cons_zero, List.getElem?_cons_succ] at hq1
                go_upto_region 13 with fail
                obtain ⟨i0, hi, hz0, hz1, hz2⟩ := info_parts info_int
                have hql := hg4.blk.lt
                have hqo : (Value.slice Av ll.length kv).ownBlock ≠ some (p + 1 + 1 + 1) := own_ne3 hrow hg4.blk (by decide)
                have hbl4 : ∃ cur, Blk w4 bb 43 cur := own_blk hg4.bv rfl
                obtain ⟨bcur, hbB⟩ := hbl4
                have hbo : (Value.slice Av ll.length kv).ownBlock ≠ some bb := own_ne3 hrow hbB (by decide)
                have hbl := hbB.lt
                have hbc' : w4.cell? ⟨bb, kx, none⟩ = some (.slice Av ll.length kv) := hbc.trans hvs
                have hkx0 : (0 : Int) ≤ (kx : Int) := by omega
                have hkx1 : (kx : Int) < (Bn.length : Int) := by omega
                refine wp_region_mid 11 1 (by kernel_rfl) (fun y => (Value.agg #[Value.int IntKind.i64 m, Value.int IntKind.u8 a, Value.slice A n k]) :: (Value.pointer (some { block := p, off := 0 })) :: (Value.pointer (some { block := p + 1, off := 0 })) :: (Value.pointer (some { block := p + 1 + 1 + 1, off := 0 })) :: (Value.int IntKind.i64 ↑j) :: (Value.pointer (some { block := c, off := 0 })) :: (Value.int IntKind.i64 ↑r) :: (Value.pointer (some { block := d, off := 0 })) :: (Value.bool true) :: (Value.int IntKind.i64 ↑kx) :: (Value.map (some (p + 1 + 1))) :: (Value.agg #[Value.slice none 0 0, Value.slice none 0 0, Value.map (some (p + 1 + 1))]) :: (Value.agg #[Value.int IntKind.i64 0, Value.int IntKind.i64 0, Value.int IntKind.u8 63]) :: (Value.int IntKind.i64 0) :: (Value.int IntKind.i64 ↑j) :: (Value.pointer (some { block := p + 1 + 1 + 1, off := 0 })) :: (Value.slice (some { block := b, off := 0 }) G.fst.length k1) :: (Value.int IntKind.i64 ↑G.fst.length) :: (Value.bool true) :: u19 :: u20 :: (Value.pointer (some { block := p + 1 + 1 + 1, off := 0 })) :: (Value.slice (some { block := b, off := 0 }) G.fst.length k1) :: (Value.int IntKind.i64 ↑j) :: (Value.pointer (some { block := b, off := j * 3 })) :: (Value.agg #[Value.int IntKind.i64 mo, Value.int IntKind.i64 la, Value.int IntKind.u8 ne]) :: (Value.pointer (some { block := p, off := 2 })) :: (Value.slice A n k) :: (Value.int IntKind.i64 ↑n) :: (Value.int IntKind.i64 ↑r) :: (Value.bool true) :: (Value.int IntKind.i64 ↑r) :: (Value.tuple #[Value.agg #[Value.int IntKind.i64 ta, Value.int IntKind.i64 tb, Value.int IntKind.u8 tc], Value.bool true]) :: (Value.agg #[Value.int IntKind.i64 m, Value.int IntKind.u8 a, Value.slice A n k]) :: (Value.agg #[Value.int IntKind.i64 mo, Value.int IntKind.i64 la, Value.int IntKind.u8 ne]) :: (Value.int IntKind.i64 ↑r) :: (Value.tuple #[Value.agg #[Value.int IntKind.i64 ta, Value.int IntKind.i64 tb, Value.int IntKind.u8 tc], Value.bool true]) :: (Value.agg #[Value.int IntKind.i64 ta, Value.int IntKind.i64 tb, Value.int IntKind.u8 tc]) :: (Value.bool true) :: u39 :: u40 :: u41 :: u42 :: u43 :: (Value.bool true) :: (Value.agg #[Value.int IntKind.i64 ta, Value.int IntKind.i64 tb, Value.int IntKind.u8 tc]) :: (Value.int IntKind.i64 ↑kx) :: y 0 :: y 1 :: y 2 :: y 3 :: y 4 :: y 5 :: y 6 :: y 7 :: y 8 :: y 9 :: y 10 :: u58 :: u59 :: undef :: []) (stE w4 (.slice Av ll.length kv) ll j) (phiE w4.heap.size (p + 1 + 1 + 1) bb kx j (.slice (some ⟨bb, 0, none⟩) Bn.length kb) (.slice Av ll.length kv)) (fun i => match i with | 0 => u47 | 1 => u48 | 2 => u49 | 3 => u50 | 4 => u51 | 5 => u52 | 6 => u53 | 7 => u54 | 8 => u55 | 9 => u56 | 10 => u57 | _ => undef)
                  (by kernel_rfl) (by kernel_rfl) (by kernel_rfl) (by kernel_rfl) ?_ [0, 1, 2, 3, 4, 5, 6, 7, 8, 9, 10] (by kernel_rfl) ?_ ?_
                · exact ⟨⟨rfl, rfl, rfl, Nat.le_refl _, fun _ _ _ => rfl⟩, fun _ => hrow, fun h => by cases h⟩
                · refine allCons ?_ (allCons ?_ (allCons ?_ (allCons ?_ (allCons ?_ (allCons ?_ (allCons ?_ (allCons ?_ (allCons ?_ (allCons ?_ (allCons ?_ allNil))))))))))
                  all_goals intro bl y w10 K3 hbi hS hd hK3
                  · refine wpOp_step rfl (fun K2 hK2 => ?_)
                    go_simp
                    exact hK2 _ _ (hK3 _ _ (hS.same (by decide)) rfl (fun _ _ h => h))
                  · have e0 : y 0 = _ := hd 0 rfl
                    obtain ⟨y, rfl⟩ := upd_at (y := y) (i := 0) e0
                    dsimp [upd]
                    have cc := (hS.1.cell_at hql hqo).trans hq1
                    refine wpOp_step rfl (fun K2 hK2 => ?_)
                    go_simp
                    exact hK2 _ _ (hK3 _ _ (hS.same (by decide)) rfl (fun _ _ h => h))
                  · refine wpOp_step rfl (fun K2 hK2 => ?_)
                    go_simp
                    exact hK2 _ _ (hK3 _ _ (hS.same (by decide)) rfl (fun _ _ h => h))
                  · refine wpOp_step rfl (fun K2 hK2 => ?_)
                    go_simp
                    exact hK2 _ _ (hK3 _ _ (hS.same (by decide)) rfl (fun _ _ h => h))
                  · have e3 : y 3 = _ := hd 3 rfl
                    obtain ⟨y, rfl⟩ := upd_at (y := y) (i := 3) e3
                    dsimp [upd]
                    have cc := (hS.1.cell_at hql hqo).trans hq1
                    refine wpOp_step rfl (fun K2 hK2 => ?_)
                    go_simp
                    exact hK2 _ _ (hK3 _ _ (hS.same (by decide)) rfl (fun _ _ h => h))
                  · refine wpOp_step rfl (fun K2 hK2 => ?_)
                    go_simp
                    exact hK2 _ _ (hK3 _ _ (hS.same (by decide)) rfl (fun _ _ h => h))
                  · have e4 : y 4 = _ := hd 4 rfl
                    have e5 : y 5 = _ := hd 5 rfl
                    obtain ⟨y, rfl⟩ := upd_at (y := y) (i := 4) e4
                    obtain ⟨y, rfl⟩ := upd_at (y := y) (i := 5) e5
                    dsimp [upd]
                    refine wpOp_step rfl (fun K2 hK2 => ?_)
                    go_simp
                    exact hK2 _ _ (hK3 _ _ (hS.same (by decide)) rfl (fun _ _ h => h))
                  · have e6 : y 6 = _ := hd 6 rfl
                    obtain ⟨y, rfl⟩ := upd_at (y := y) (i := 6) e6
                    dsimp [upd]
                    have cc := (hS.1.cell_at hbl hbo).trans hbc'
                    refine wpOp_step rfl (fun K2 hK2 => ?_)
                    go_simp
                    exact hK2 _ _ (hK3 _ _ (hS.same (by decide)) rfl (fun _ _ h => h))
                  · refine wpOp_step rfl (fun K2 hK2 => ?_)
                    go_simp
                    exact hK2 _ _ (hK3 _ _ (hS.same (by decide)) rfl (fun _ _ h => h))
                  · have e8 : y 8 = _ := hd 8 rfl
                    obtain ⟨y, rfl⟩ := upd_at (y := y) (i := 8) e8
                    dsimp [upd]
                    refine wpOp_step rfl (fun K2 hK2 => ?_)
                    go_simp
                    refine hK2 _ _ (hK3 _ _ (hS.set (by decide) (fun g hg => (below_box w10 _ _).block g hg) (by simp) ⟨rfl, rfl, rfl⟩) ⟨_, rfl, Blk.new _ _ _, hS.1.size⟩ ?_)
                    intro i hi h
                    match i, h with
                    | 9, ⟨b9, e9, h9, n9⟩ => exact ⟨b9, e9, h9.box, n9⟩
                    | 0, h => exact h
                    | 1, h => exact h
                    | 2, h => exact h
                    | 3, h => exact h
                    | 4, h => exact h
                    | 5, h => exact h
                    | 6, h => exact h
                    | 7, h => exact h
                    | 8, h => exact h
                    | i + 10, _ => trivial
                  · have e7 : y 7 = _ := hd 7 rfl
                    obtain ⟨b9, e9, h9, n9⟩ := hd 9 rfl
                    refine wpOp_append_at rfl rfl _ _ 43 rfl 3 i0 (.int .i64 0) 1 8 Try.underlying43 hi hz0 hz1 hz2 rfl (by decide) (.slice Av ll.length kv) ll.length _ e7 (hS.2.1 hbi) ⟨b9, 0, none⟩ 1 1 [.int .i64 j] e9 rfl h9.news (ints_oneCell .i64 [(j : Int)]) (by unfold maxLen; omega) (by omega) ?_
                    intro v' w11 ho hg hloc
                    refine hK3 _ _ ⟨⟨hg.os.trans hS.1.os, hg.tape.trans hS.1.tape, hg.output.trans hS.1.output, Nat.le_trans hS.1.size hg.size, fun g hgl hne => (hg.block g (Nat.lt_of_lt_of_le hgl hS.1.size) hne).trans (hS.1.block g hgl hne)⟩, fun hf => by simp at hf, fun _ => ⟨?_, ?_⟩⟩ trivial ?_
                    · have : upd y 10 v' 10 = v' := by simp [upd]
                      rw [this]; exact ho
                    · have : upd y 10 v' 10 = v' := by simp [upd]
                      rw [this]
                      rcases hloc with h | h
                      · exact .inl h
                      · exact .inr ⟨_, h, hS.1.size⟩
                    · intro i hi h
                      match i, h with
                      | 9, ⟨b, e, h1, h2⟩ =>
                        refine ⟨b, e, (hg.block b h1.lt (fun e3 => ?_)).trans h1, h2⟩
                        obtain ⟨cur, hc⟩ := own_blk hrow e3.symm
                        have := hc.lt
                        omega
                      | 0, h => exact h
                      | 1, h => exact h
                      | 2, h => exact h
                      | 3, h => exact h
                      | 4, h => exact h
                      | 5, h => exact h
                      | 6, h => exact h
                      | 7, h => exact h
                      | 8, h => exact h
                      | i + 10, _ => trivial
                · intro bl y w10 f hall hS hd
                  have e1 : y 1 = _ := hd 1 (by decide)
                  have e2 : y 2 = _ := hd 2 (by decide)
                  obtain ⟨ho, hloc⟩ := hS.2.2 (hall 10 (by decide))
                  have hgr := hS.1
                  obtain ⟨A10, k10, e10⟩ := own_shape ho
                  rw [e10] at ho hloc
                  clear hd hall hS
                  obtain ⟨y, rfl⟩ := upd_at (y := y) (i := 1) e1
                  obtain ⟨y, rfl⟩ := upd_at (y := y) (i := 2) e2
                  obtain ⟨y, rfl⟩ := upd_at (y := y) (i := 10) e10
                  dsimp [upd]
                  have hEnd := edge_end (j := j) hKw4.out hg4 hkb hvs hls hgr ho hloc
                  have hB10 : Blk w10 bb 43 bcur := (hgr.block bb hbl (Ne.symm hbo)).trans hbB
                  have f0 := hB10.free kx
                  have c0 := (hgr.cell_at hbl hbo).trans hbc'
                  clear e1 e2 e10 ho hloc hB10
                  refine wpAny_one (i := 11) (by kernel_rfl) ?_
                  refine wpOp_step rfl (fun K2 hK2 => ?_)
                  go_simp
                  refine hK2 _ _ ?_
                  clear hK2 K2
                  refine wpAny_one (i := 12) (by kernel_rfl) ?_
                  refine wpOp_step rfl (fun K2 hK2 => ?_)
                  go_simp
                  refine hK2 _ _ ?_
                  clear hK2 K2
                  refine wpAny_done (by kernel_rfl) ?_ _
                  obtain ⟨hga6, hk6⟩ := hEnd
                  have B6 : Hid (Below p w (w10.setCell ⟨bb, kx, none⟩ (.slice A10 (ll.length + 1) k10))) := B4.out.trans ⟨hk6.1, hk6.2.1, hk6.2.2.1, hk6.2.2.2.1, fun b hb => hk6.2.2.2.2 b (Or.inl (by omega))⟩
                  have T6 : Hid (Blk (w10.setCell ⟨bb, kx, none⟩ (.slice A10 (ll.length + 1) k10)) p 30 #[.int .i64 m, .int .u8 a, .slice A n k]) := (hk6.2.2.2.2 p (Or.inl (by omega))).trans T4.out
                  have Z6 : Hid (Blk (w10.setCell ⟨bb, kx, none⟩ (.slice A10 (ll.length + 1) k10)) (p + 1) 238 #[.slice none 0 0, .slice none 0 0, .map none]) := (hk6.2.2.2.2 (p + 1) (Or.inl (by omega))).trans Z4.out
                  have Q6 : Hid (Blk (w10.setCell ⟨bb, kx, none⟩ (.slice A10 (ll.length + 1) k10)) c 47 #[.int .i64 mo, .int .i64 la, .int .u8 ne]) := (hk6.2.2.2.2 c (Or.inr rfl)).trans Q4.out
                  have HGA6 := Lib.hid hga6
                  clear hga6 hk6 hg4 hrow hgr f0 c0 T4 Z4 Q4 B4
                  generalize w10.setCell ⟨bb, kx, none⟩ (.slice A10 (ll.length + 1) k10) = w6 at *
                  go_wp2_with fail
                  refine ⟨⟨r + 1, by go_num, by have := HRN.out; omega, by rw [HE.out]; exact HGA6.out, B6.out, T6.out, Z6.out, Q6.out⟩, ?_⟩
                  have := HRN.out; simp [intOf]; omega
        · have : r = n := by omega
          subst this
          have hok2 := row_ok HG.out HFT.out (i := j) hsok.out HOK.out r
          have hln2 := row_len (rs := rs) (i := j) (s := ⟨mo, la, ne⟩) HLN.out r
          have HEX2 : Hid (expG rs (4000 - (j + 1)) (j + 1) (rowG rs j ⟨mo, la, ne⟩ r G) = theG rs) := by
            unfold Hid
            rw [← HEX.out, show 4000 - j = (4000 - (j + 1)) + 1 by omega]
            conv => rhs; unfold expG
            rw [HSJ.out, HN.out]
          have hgrow : G.1.length ≤ (rowG rs j ⟨mo, la, ne⟩ r G).1.length := row_grow G r
          have HGA7 : Hid (GA (fun b => b < p + 2) wr (p + 1 + 1 + 1) (p + 1 + 1) (rowG rs j ⟨mo, la, ne⟩ r G).1 (rowG rs j ⟨mo, la, ne⟩ r G).2) := by
            obtain ⟨SV, BV, vs, D, hg⟩ := hga
            exact ⟨SV, BV, vs, D, hg.more (fun b hb => .inl (.inl hb))⟩
          have HB7 := Lib.hid hb
          have HT7 := Lib.hid ht
          have HZ7 := Lib.hid hz
          have HOK7 := Lib.hid hok2
          have HLN7 : Hid (LenB (rowG rs j ⟨mo, la, ne⟩ r G).2 (64 * (j + 1))) := fun l hl => by have := hln2 l hl; omega
          clear hga hb ht hz hq hok2 hln2
          go_wp2_with fail
          refine ⟨⟨j + 1, _, by go_num, Nat.le_trans HL.out hgrow, HOK7.out, HEX2.out, HLN7.out, HGA7.out, HB7.out, HT7.out, HZ7.out⟩, ?_⟩
          have := HL.out; simp [intOf]; omega
    · have : j = G.1.length := by omega
      have HFIN : Hid (theG rs = G) := by
        unfold Hid
        rw [← HEX.out, show 4000 - j = (4000 - j - 1) + 1 by omega]
        unfold expG
        rw [List.getElem?_eq_none (by omega)]
      have c1 := HG1.out.blk.cell 1
      have c2 := HG1.out.blk.cell 2
      have z0 := HZ.out.cell 0
      have z1 := HZ.out.cell 1
      have z2 := HZ.out.cell 2
      have f0 := HZ.out.free 0
      have f1 := HZ.out.free 1
      have f2 := HZ.out.free 2
      simp only [List.getElem?_toArray, List.getElem?_cons_zero, List.getElem?_cons_succ] at c1 c2 z0 z1 z2
      obtain ⟨Ab, kb, rfl⟩ := own_shape HG1.out.bv
      have hjn : ¬ (j : Int) < (G.1.length : Int) := by omega
      have hp1 : p + 1 < wr.heap.size := HZ.out.lt
      go_wp2_with fail
      refine bodyPost_ret (v := .agg #[.slice A1 G.1.length k1, .slice Ab G.2.length kb, .map (some (p + 1 + 1))]) (by simp [results, Try.results159, go_sem, z0, z1, z2]) rfl ?_
      exact gr_end HW.out HFIN.out HB.out HG1.out
end Go.Proofs.Ytpkdlljefkbmpaa

/-! Package automaton: States; the reference's Index. -/
namespace Go.Proofs.Ytpkdlljefkbmpaa
open Go.RowKit Go.Maps

/-- A slice that reads as a list of states. -/
def StAt (w : World) (B : Nat) (A : Option Addr) (L : List St) : Prop :=
  0 < L.length → ∃ b, A = some ⟨b, 0, none⟩ ∧ b < B ∧ ∀ j (h : j < L.length), w.cell? ⟨b, j * 3, none⟩ = some (.int .i64 L[j].mode) ∧ w.cell? ⟨b, j * 3 + 1, none⟩ = some (.int .i64 L[j].last) ∧ w.cell? ⟨b, j * 3 + 2, none⟩ = some (.int .u8 L[j].need)
theorem StAt.keep {w w' : World} {B : Nat} {A : Option Addr} {L : List St} (h : StAt w B A L) (hb : Below B w w') : StAt w' B A L := fun h0 => by
  obtain ⟨b, e, hB, hc⟩ := h h0
  have key : ∀ i, w'.cell? ⟨b, i, none⟩ = w.cell? ⟨b, i, none⟩ := fun i => hb.cell (p := ⟨b, i, none⟩) hB
  exact ⟨b, e, hB, fun j hj => ⟨(key _).trans (hc j hj).1, (key _).trans (hc j hj).2.1, (key _).trans (hc j hj).2.2⟩⟩
theorem StAt.more {w : World} {B B' : Nat} {A : Option Addr} {L : List St} (h : StAt w B A L) (hB : B ≤ B') : StAt w B' A L := fun h0 => by
  obtain ⟨b, e, hb, hc⟩ := h h0
  exact ⟨b, e, by omega, hc⟩
theorem StAt.up {w w' : World} {A : Option Addr} {L : List St} (h : StAt w w.heap.size A L) (hb : Below w.heap.size w w') : StAt w' w'.heap.size A L := (h.keep hb).more hb.size
theorem own_stAt {w : World} {base k n : Nat} {A : Option Addr} {L : List St} (h : w.ownsRow base 47 3 (.slice A n k) L.length (L.flatMap St.cs)) : StAt w w.heap.size A L := fun h0 => by
  obtain ⟨b, e, hb, _⟩ := st_cells h h0
  subst e
  refine ⟨b, rfl, hb, fun j hj => ?_⟩
  obtain ⟨b', e', _, c0, c1, c2⟩ := st_cells h hj
  injection e' with e'
  injection e' with e'
  subst e'
  exact ⟨c0, c1, c2⟩
def StEnd (rs : List Rule) (w : World) (e : Ending) (w' : World) : Prop := ∃ A k, e = .returned (.slice A (theG rs).1.length k) ∧ StAt w' w'.heap.size A (theG rs).1 ∧ Below w.heap.size w w'
set_option maxRecDepth 10000 in
theorem states_any (m a : Int) (A : Option Addr) (n k : Nat) (rs : List Rule) (w : World) (hn : rs.length = n) (hR : Rules w w.heap.size A rs) (hG : GoodL m a rs) (hmax : n ≤ 64) (hm : 1 ≤ m ∧ m ≤ 8) :
    Calls Try.prog 124 #[.agg #[.int .i64 m, .int .u8 a, .slice A n k]] w (StEnd rs w) := by
  have HB := Lib.hid (below_box w #[.int .i64 m, .int .u8 a, .slice A n k] 30)
  have HR := Lib.hid (hR.up HB.out)
  clear hR
  go_enter Try.func124, Try.ntmps124
  go_wp2_with fail
  generalize w.alloc (.cells #[.int .i64 m, .int .u8 a, .slice A n k] 30) = V at *
  refine (explore_any m a A n k rs V hn HR.out hG hmax hm).mono ?_
  rintro e w1 ⟨SV, BV, mb, vs, D, q, rfl, hg, hb1⟩
  obtain ⟨A1, k1, rfl⟩ := own_shape hg.sv
  obtain ⟨A2, k2, rfl⟩ := own_shape hg.bv
  have HE : Hid (StEnd rs w (.returned (.slice A1 (theG rs).1.length k1)) w1) := ⟨_, _, rfl, own_stAt hg.sv, below_next HB.out hb1⟩
  have hfd : ∀ u : World, (Instr.field 238 (.agg #[.slice A1 (theG rs).1.length k1, .slice A2 (theG rs).2.length k2, .map (some mb)]) 0).run Try.prog u = .ok (.slice A1 (theG rs).1.length k1) u := fun _ => by kernel_rfl
  clear hg hb1
  go_wp2_with fail
  go_ret
  exact HE.out
/-- The place of a state in a list, or -1. -/
def idxI (L : List St) (s : St) : Int := if s ∈ L then (L.idxOf s : Nat) else -1
theorem idx_le {s : St} : ∀ {L : List St} {j : Nat}, L[j]? = some s → L.idxOf s ≤ j := by
  intro L
  induction L with
  | nil => intro j h; simp at h
  | cons t L ih =>
    intro j h
    rw [List.idxOf_cons]
    by_cases e : t = s
    · subst e; simp
    · cases j with
      | zero => simp at h; exact absurd h e
      | succ j =>
        have := ih (j := j) (by simpa using h)
        have hb : (t == s) = false := by simpa using e
        rw [hb]
        simp only [cond_false]
        omega
theorem idx_at {L : List St} {s : St} {j : Nat} (h : ∀ i, i < j → L[i]? ≠ some s) (hj : L[j]? = some s) : idxI L s = j := by
  have hm : s ∈ L := List.mem_of_getElem? hj
  unfold idxI
  rw [if_pos hm]
  have h1 := List.idxOf_lt_length_iff.2 hm
  have h2 : L[L.idxOf s]? = some s := by rw [List.getElem?_eq_getElem h1, List.getElem_idxOf]
  have h3 : ¬ L.idxOf s < j := fun hl => h _ hl h2
  have h4 := idx_le hj
  congr 1
  omega
theorem idx_no {L : List St} {s : St} (h : ∀ i, i < L.length → L[i]? ≠ some s) : idxI L s = -1 := by
  unfold idxI
  rw [if_neg]
  intro hm
  obtain ⟨i, hi, e⟩ := List.getElem_of_mem hm
  exact h i hi (by rw [List.getElem?_eq_getElem hi, e])
theorem no_step {L : List St} {s : St} {j : Nat} {t : St} (h : ∀ i, i < j → L[i]? ≠ some s) (hj : L[j]? = some t) (hne : t ≠ s) : ∀ i, i < j + 1 → L[i]? ≠ some s := fun i hi => by
  by_cases hij : i = j
  · subst hij; rw [hj]; intro e; injection e with e; exact hne e
  · exact h i (by omega)
set_option maxRecDepth 10000 in
set_option maxHeartbeats 1000000 in
theorem index_st (A : Option Addr) (n k : Nat) (L : List St) (s : St) (w : World) (hn : L.length = n) (hL : StAt w w.heap.size A L) (hmax : n < 2 ^ 40) :
    Calls Try.prog 63 #[.slice A n k, s.val] w fun e w' => e = .returned (.int .i64 (idxI L s)) ∧ Below w.heap.size w w' := by
  obtain ⟨mo, la, ne⟩ := s
  unfold St.val
  dsimp only
  have HB := Lib.hid (below_box w #[.int .i64 mo, .int .i64 la, .int .u8 ne] 47)
  have Q := Lib.hid (Blk.new w #[.int .i64 mo, .int .i64 la, .int .u8 ne] 47)
  have HL := Lib.hid (hL.up HB.out)
  have HN := Lib.hid hn
  clear hL hn
  go_enter Try.func63, Try.ntmps63
  go_wp2_with fail
  generalize w.alloc (.cells #[.int .i64 mo, .int .i64 la, .int .u8 ne] 47) = V at *
  obtain ⟨g, hg⟩ : ∃ g, w.heap.size = g := ⟨_, rfl⟩
  rw [hg] at Q HB ⊢
  have HG := Lib.hid hg
  clear hg
  go_loopw [5] (fun x wr => ∃ j : Nat, x = .int .i64 j ∧ j ≤ n ∧ (∀ i, i < j → L[i]? ≠ some ⟨mo, la, ne⟩) ∧ Below V.heap.size V wr) (fun x _ => n - (intOf x).toNat)
  case atStart => exact ⟨0, rfl, Nat.zero_le _, fun i hi => absurd hi (by omega), Below.refl _ _⟩
  case round =>
    obtain ⟨j, rfl, hj, hno, hb⟩ := hrel
    have HNO := Lib.hid hno
    have HBW := Lib.hid hb
    have HBG : Hid (Below g w wr) := HB.out.trans (hb.mono (by have := Q.out.lt; omega))
    clear hno
    by_cases hlt : j < n
    · have hjl : j < L.length := by have := HN.out; omega
      obtain ⟨b, rfl, hB, hc⟩ := HL.out (by omega)
      obtain ⟨c0, c1, c2⟩ := hc j hjl
      have HJ : Hid (L[j]? = some (L[j]'hjl)) := List.getElem?_eq_getElem hjl
      have q0 := (hb.cell (p := ⟨g, 0, none⟩) Q.out.lt).trans (Q.out.cell 0)
      have q1 := (hb.cell (p := ⟨g, 1, none⟩) Q.out.lt).trans (Q.out.cell 1)
      have q2 := (hb.cell (p := ⟨g, 2, none⟩) Q.out.lt).trans (Q.out.cell 2)
      simp only [List.getElem?_toArray, List.getElem?_cons_zero, List.getElem?_cons_succ] at q0 q1 q2
      have d0 := (hb.cell (p := ⟨b, j * 3, none⟩) hB).trans c0
      have d1 := (hb.cell (p := ⟨b, j * 3 + 1, none⟩) hB).trans c1
      have d2 := (hb.cell (p := ⟨b, j * 3 + 2, none⟩) hB).trans c2
      clear hc c0 c1 c2 hb
      generalize L[j]'hjl = t at *
      obtain ⟨ta, tb, tc⟩ := t
      dsimp only at d0 d1 d2
      have hj0 : (0 : Int) ≤ (j : Int) := by omega
      have hjn : (j : Int) < (n : Int) := by omega
      have HLT := Lib.hid hlt
      by_cases h1 : ta = mo
      · subst h1
        by_cases h2 : tb = la
        · subst h2
          by_cases h3 : tc = ne
          · subst h3
            have HE := Lib.hid (idx_at HNO.out HJ.out)
            clear HNO HJ
            go_wp2_with fail
            go_region
            go_wp2_with fail
            go_ret
            exact ⟨by rw [HE.out]; rfl, by first | exact HBG.out.drew | (rw [HG.out]; exact HBG.out.drew)⟩
          · have HS := Lib.hid (no_step HNO.out HJ.out (fun e => h3 (by injection e)))
            clear HNO HJ
            go_wp2_with fail
            go_region
            go_wp2_with fail
            refine ⟨⟨j + 1, by go_num, by have := HLT.out; omega, HS.out, HBW.out.drew⟩, ?_⟩
            have := HLT.out; simp [intOf]; omega
        · have HS := Lib.hid (no_step HNO.out HJ.out (fun e => h2 (by injection e)))
          clear HNO HJ
          go_wp2_with fail
          go_region
          go_wp2_with fail
          refine ⟨⟨j + 1, by go_num, by have := HLT.out; omega, HS.out, HBW.out.drew⟩, ?_⟩
          have := HLT.out; simp [intOf]; omega
      · have HS := Lib.hid (no_step HNO.out HJ.out (fun e => h1 (by injection e)))
        clear HNO HJ
        go_wp2_with fail
        go_region
        go_wp2_with fail
        refine ⟨⟨j + 1, by go_num, by have := HLT.out; omega, HS.out, HBW.out.drew⟩, ?_⟩
        have := HLT.out; simp [intOf]; omega
    · have : j = n := by omega
      subst this
      have HE := Lib.hid (idx_no (by rw [HN.out]; exact HNO.out))
      clear HNO hb
      go_wp2_with fail
      go_ret
      exact ⟨by rw [HE.out]; rfl, by first | exact HBG.out | (rw [HG.out]; exact HBG.out)⟩
end Go.Proofs.Ytpkdlljefkbmpaa

/-! Package automaton: the closure that wakes a state. -/
namespace Go.Proofs.Ytpkdlljefkbmpaa
open Go.RowKit Go.Maps

abbrev Aw := List Bool × List Nat
def wakeL (p : Aw) (k : Nat) : Aw := if p.1.getD k true then p else (p.1.set k true, p.2 ++ [k])
/-- The two variables that the closure writes: which states are alive, and those from which it is still to be told. -/
structure AW (M : Nat) (w : World) (al ab wt n : Nat) (p : Aw) (QV : Value) : Prop where
  hal : Blk w al 53 #[.slice (some ⟨ab, 0, none⟩) n n]
  hab : Blk w ab 4 (p.1.map Value.bool).toArray
  hlen : p.1.length = n
  hwt : Blk w wt 43 #[QV]
  hq : w.ownsRow M 3 1 QV p.2.length (p.2.map fun i : Nat => Value.int .i64 i)
  nal : M ≤ al
  nab : M ≤ ab
  nwt : M ≤ wt
  nn : al ≠ wt
def AWE (M : Nat) (w : World) (al ab wt n : Nat) (p : Aw) : Prop := ∃ QV, AW M w al ab wt n p QV
theorem AWE.below {M : Nat} {w w' : World} {al ab wt n : Nat} {p : Aw} (h : AWE M w al ab wt n p) (hb : Below w.heap.size w w') : AWE M w' al ab wt n p := by
  obtain ⟨QV, h1, h2, h3, h4, h5, h6, h7, h8, h9⟩ := h
  exact ⟨QV, h1.keep hb h1.lt, h2.keep hb h2.lt, h3, h4.keep hb h4.lt, own_move h5 (fun b he => by
    obtain ⟨cur, hc⟩ := own_blk h5 he
    exact hb.block b hc.lt), h6, h7, h8, h9⟩
theorem wakeL_yes {p : Aw} {k : Nat} (h : p.1.getD k true = true) : wakeL p k = p := by unfold wakeL; rw [h]; rfl
theorem wakeL_no {p : Aw} {k : Nat} (h : p.1.getD k true = false) : wakeL p k = (p.1.set k true, p.2 ++ [k]) := by unfold wakeL; rw [h]; rfl
set_option maxRecDepth 10000 in
set_option maxHeartbeats 1000000 in
theorem wake_any (M al ab wt n k : Nat) (p : Aw) (w : World) (h : AWE M w al ab wt n p) (hk : k < n) (hq : p.2.length < 2 ^ 30) :
    Calls Try.prog 169 #[.int .i64 k, .pointer (some ⟨al, 0, none⟩), .pointer (some ⟨wt, 0, none⟩)] w fun e w' => e = .returned (.tuple #[]) ∧ AWE M w' al ab wt n (wakeL p k) ∧ Below M w w' := by
  obtain ⟨QV, hA⟩ := h
  obtain ⟨A, cq, rfl⟩ := own_shape hA.hq
  have HA := Lib.hid hA
  have a0 := hA.hal.cell 0
  have hkl : k < p.1.length := by have := hA.hlen; omega
  have b0 := hA.hab.cell k
  have f0 := hA.hab.free k
  have t0 := hA.hwt.cell 0
  simp only [List.getElem?_toArray, List.getElem?_cons_zero, List.getElem?_map, List.getElem?_eq_getElem hkl, Option.map_some] at a0 b0 t0
  have hk0 : (0 : Int) ≤ (k : Int) := by omega
  have hkn : (k : Int) < (n : Int) := by omega
  obtain ⟨x, hx⟩ : ∃ x, p.1[k]'hkl = x := ⟨_, rfl⟩
  have hgd : p.1.getD k true = x := by rw [List.getD_eq_getElem?_getD, List.getElem?_eq_getElem hkl, hx]; rfl
  rw [hx] at b0
  have HGD := Lib.hid hgd
  clear hA hx hgd
  cases x
  · have HW := Lib.hid (wakeL_no HGD.out)
    obtain ⟨i0, hi, hz0, hz1, hz2⟩ := info_parts info_int
    go_enter Try.func169, Try.ntmps169
    go_upto_region 2 with fail
    have W1 : Hid (Blk (w.setCell ⟨ab, k, none⟩ (.bool true)) ab 4 ((p.1.set k true).map Value.bool).toArray) := by
      have h := HA.out.hab.set k (.bool true)
      have e : ((p.1.map Value.bool).toArray).setIfInBounds k (.bool true) = ((p.1.set k true).map Value.bool).toArray := by simp [List.map_set]
      rw [e] at h; exact h
    have hne : ab ≠ al := Blk.type_ne HA.out.hab HA.out.hal (by decide)
    have hne2 : ab ≠ wt := Blk.type_ne HA.out.hab HA.out.hwt (by decide)
    have A1 : Hid (Blk (w.setCell ⟨ab, k, none⟩ (.bool true)) al 53 #[.slice (some ⟨ab, 0, none⟩) n n]) := (Below.heap_setCell w ⟨ab, k, none⟩ _ al (fun e => hne e.symm)).trans HA.out.hal
    have T1 : Hid (Blk (w.setCell ⟨ab, k, none⟩ (.bool true)) wt 43 #[.slice A p.2.length cq]) := (Below.heap_setCell w ⟨ab, k, none⟩ _ wt (fun e => hne2 e.symm)).trans HA.out.hwt
    have Q1 : Hid ((w.setCell ⟨ab, k, none⟩ (.bool true)).ownsRow M 3 1 (.slice A p.2.length cq) p.2.length (p.2.map fun i : Nat => Value.int .i64 i)) := own_set (i := k) HA.out.hq HA.out.hab (by decide) _
    have B1 : Hid (Below M w (w.setCell ⟨ab, k, none⟩ (.bool true))) := (Below.refl M w).setCell HA.out.nab _
    generalize w.setCell ⟨ab, k, none⟩ (.bool true) = w1 at *
    clear a0 b0 f0 t0
    have t0 := T1.out.cell 0
    simp only [List.getElem?_toArray, List.getElem?_cons_zero] at t0
    have hM : M ≤ w1.heap.size := by have := HA.out.nal; have := A1.out.lt; omega
    go_wp2_with (at_builtin; refine wpList_append_own_at _ rfl _ _ 43 rfl M 3 i0 (.int .i64 0) 1 8 Try.underlying43 hi hz0 hz1 hz2 rfl (by decide) (.slice A p.2.length cq) p.2.length _ rfl (Q1.out.alloc _) ⟨w1.heap.size, 0, none⟩ 1 1 [.int .i64 k] rfl rfl (cell_one_new _ _ _) (ints_oneCell .i64 [(k : Int)]) (by unfold maxLen; omega) (by omega) (by simp; omega) ?_)
    intro v2 w2 hown2 hgr2 hnil2 hloc2
    obtain ⟨A2, k2, rfl⟩ := own_shape hown2
    have hgr : w1.grownBy w2 (Value.slice A p.2.length cq).ownBlock := (World.grownBy_alloc _ _ _).trans hgr2
    have HT2 : Hid (Blk w2 wt 43 #[.slice A p.2.length cq]) := (hgr.block wt T1.out.lt (own_ne3 Q1.out T1.out (by decide)).symm).trans T1.out
    have HA2 : Hid (Blk w2 al 53 #[.slice (some ⟨ab, 0, none⟩) n n]) := (hgr.block al A1.out.lt (own_ne3 Q1.out A1.out (by decide)).symm).trans A1.out
    have HW2 : Hid (Blk w2 ab 4 ((p.1.set k true).map Value.bool).toArray) := (hgr.block ab W1.out.lt (own_ne3 Q1.out W1.out (by decide)).symm).trans W1.out
    have HO2 := Lib.hid hown2
    have HB2 : Hid (Below M w w2) := B1.out.grown hgr hM (fun q hq => (Q1.out.lt q hq).1)
    have c0 := HT2.out.cell 0
    have f0 := HT2.out.free 0
    simp only [List.getElem?_toArray, List.getElem?_cons_zero] at c0
    clear hown2 hgr2 hnil2 hloc2 hgr t0
    have HE : Hid (AWE M (w2.setCell ⟨wt, 0, none⟩ (.slice A2 (p.2.length + 1) k2)) al ab wt n (wakeL p k) ∧ Below M w (w2.setCell ⟨wt, 0, none⟩ (.slice A2 (p.2.length + 1) k2))) := by
      refine ⟨⟨.slice A2 (p.2.length + 1) k2, ?_⟩, HB2.out.setCell HA.out.nwt _⟩
      rw [HW.out]
      refine ⟨(Below.heap_setCell w2 ⟨wt, 0, none⟩ _ al HA.out.nn).trans HA2.out, (Below.heap_setCell w2 ⟨wt, 0, none⟩ _ ab hne2).trans HW2.out, by simpa using HA.out.hlen, HT2.out.set 0 _, ?_, HA.out.nal, HA.out.nab, HA.out.nwt, HA.out.nn⟩
      have h5 := own_set (i := 0) HO2.out HT2.out (by decide) (.slice A2 (p.2.length + 1) k2)
      simpa using h5
    go_wp2_with fail
    go_end0
    exact ⟨rfl, HE.out⟩
  · have HW := Lib.hid (wakeL_yes HGD.out)
    go_enter Try.func169, Try.ntmps169
    go_wp2_with fail
    go_end0
    exact ⟨rfl, by rw [HW.out]; exact ⟨_, HA.out⟩, Below.refl _ _⟩
end Go.Proofs.Ytpkdlljefkbmpaa

/-! Package automaton: Alive. -/
namespace Go.Proofs.Ytpkdlljefkbmpaa
open Go.RowKit Go.Maps

theorem exp_inv {rs : List Rule} (P : Gr → Prop) (hrow : ∀ i s G, P G → G.1[i]? = some s → P (rowG rs i s rs.length G)) : ∀ f i G, P G → P (expG rs f i G) := by
  intro f
  induction f with
  | zero => intro i G h; exact h
  | succ f ih =>
    intro i G h
    unfold expG
    cases hs : G.1[i]? with
    | none => exact h
    | some s => exact ih _ _ (hrow i s G h hs)
theorem theG_ok {m a : Int} {rs : List Rule} (hG : GoodL m a rs) (hf : ∀ x ∈ rs, x.fits) (hm : 1 ≤ m) : OkG m (theG rs) :=
  exp_inv (OkG m) (fun _ _ _ h hs => row_ok hG hf (h.1 _ (List.mem_of_getElem? hs)) h _) _ _ _ (startG_ok hm)
def LtB (G : Gr) : Prop := ∀ l ∈ G.2, ∀ x ∈ l, x < G.1.length
theorem edge_lt {rs : List Rule} {i r : Nat} {s : St} {G : Gr} (h : LtB G) (hi : i < G.1.length) : LtB (edgeG rs i s r G) := by
  unfold edgeG
  split
  · have hg := insS_grow G.1 (stepS rs s r).1
    have h1 : ∀ l ∈ insB G.1 G.2 (stepS rs s r).1, ∀ x ∈ l, x < G.1.length := by
      unfold insB
      split
      · exact h
      · intro l hl
        rcases List.mem_append.1 hl with g | g
        · exact h l g
        · simp at g; subst g; simp
    intro l hl x hx
    unfold addB at hl
    simp only at hl ⊢
    rcases List.mem_or_eq_of_mem_set hl with g | g
    · have := h1 l g x hx; omega
    · rw [g] at hx
      rcases List.mem_append.1 hx with g2 | g2
      · rw [List.getD_eq_getElem?_getD] at g2
        cases he : (insB G.1 G.2 (stepS rs s r).1)[G.1.idxOf (stepS rs s r).1]? with
        | none => rw [he] at g2; simp at g2
        | some y => rw [he] at g2; have := h1 y (List.mem_of_getElem? he) x g2; omega
      · simp at g2; omega
  · exact h
theorem row_lt {rs : List Rule} {i : Nat} {s : St} {G : Gr} (h : LtB G) (hi : i < G.1.length) : ∀ n, LtB (rowG rs i s n G) := by
  intro n
  induction n with
  | zero => exact h
  | succ n ih => exact edge_lt ih (Nat.lt_of_lt_of_le hi (row_grow G n))
theorem theG_lt (rs : List Rule) : LtB (theG rs) :=
  exp_inv LtB (fun _ _ _ h hs => row_lt h (List.getElem?_eq_some_iff.1 hs).1 _) _ _ _ (fun l hl => by simp [startG] at hl; subst hl; simp)
def accL (a : Int) (L : List St) : Nat → Aw
  | 0 => (List.replicate L.length false, [])
  | j + 1 => match L[j]? with
    | some s => if accB a s then wakeL (accL a L j) j else accL a L j
    | none => accL a L j
def propL (B : List (List Nat)) : Nat → Nat → Aw → Aw
  | 0, _, p => p
  | f + 1, i, p => match p.2[i]? with
    | some k => propL B f (i + 1) ((B.getD k []).foldl wakeL p)
    | none => p
/-- Which states are alive. -/
def aliveL (a : Int) (G : Gr) : List Bool := (propL G.2 4000 0 (accL a G.1 G.1.length)).1
def OkA (n : Nat) (p : Aw) : Prop := p.1.length = n ∧ p.2.Nodup ∧ ∀ k ∈ p.2, k < n ∧ p.1.getD k true = true
theorem wake_ok {n k : Nat} {p : Aw} (h : OkA n p) (hk : k < n) : OkA n (wakeL p k) := by
  obtain ⟨h1, h2, h3⟩ := h
  cases hg : p.1.getD k true with
  | true => rw [wakeL_yes hg]; exact ⟨h1, h2, h3⟩
  | false =>
    rw [wakeL_no hg]
    refine ⟨by simpa using h1, ?_, fun i hi => ?_⟩
    · rw [List.nodup_append]
      refine ⟨h2, by simp, fun x hx y hy e => ?_⟩
      simp at hy
      subst hy; subst e
      have := (h3 x hx).2
      rw [hg] at this; cases this
    · rcases List.mem_append.1 hi with g | g
      · obtain ⟨g1, g2⟩ := h3 i g
        refine ⟨g1, ?_⟩
        rw [List.getD_eq_getElem?_getD] at g2 ⊢
        by_cases e : k = i
        · subst e; rw [List.getElem?_set_self (by omega)]; rfl
        · rw [List.getElem?_set_ne e]; exact g2
      · simp at g
        subst g
        refine ⟨hk, ?_⟩
        rw [List.getD_eq_getElem?_getD, List.getElem?_set_self (by omega)]; rfl
theorem OkA.le {n : Nat} {p : Aw} (h : OkA n p) : p.2.length ≤ n := nodup_le n p.2 h.2.1 fun x hx => (h.2.2 x hx).1
theorem fold_ok {n : Nat} : ∀ (l : List Nat) {p : Aw}, OkA n p → (∀ x ∈ l, x < n) → OkA n (l.foldl wakeL p) := by
  intro l
  induction l with
  | nil => intro p h _; exact h
  | cons x l ih => intro p h hl; exact ih (wake_ok h (hl x (by simp))) fun y hy => hl y (by simp [hy])
theorem acc_ok {a : Int} {L : List St} : ∀ j, OkA L.length (accL a L j) := by
  intro j
  induction j with
  | zero => exact ⟨by simp [accL], by simp [accL], by simp [accL]⟩
  | succ j ih =>
    unfold accL
    cases hs : L[j]? with
    | none => exact ih
    | some s =>
      dsimp only
      split
      · exact wake_ok ih (List.getElem?_eq_some_iff.1 hs).1
      · exact ih
theorem wake_grow (p : Aw) (k : Nat) : p.2.length ≤ (wakeL p k).2.length := by
  unfold wakeL; split
  · exact Nat.le_refl _
  · simp
theorem fold_grow : ∀ (l : List Nat) (p : Aw), p.2.length ≤ (l.foldl wakeL p).2.length := by
  intro l
  induction l with
  | nil => intro p; exact Nat.le_refl _
  | cons x l ih => intro p; exact Nat.le_trans (wake_grow p x) (ih _)
/-- What Alive hands back. -/
def AlEnd (a : Int) (rs : List Rule) (w : World) (e : Ending) (w' : World) : Prop :=
  ∃ b, e = .returned (.slice (some ⟨b, 0, none⟩) (theG rs).1.length (theG rs).1.length) ∧ Blk w' b 4 ((aliveL a (theG rs)).map Value.bool).toArray ∧ (aliveL a (theG rs)).length = (theG rs).1.length ∧ w.heap.size ≤ b ∧ Below w.heap.size w w'
theorem info_bool : (Try.prog.info? 4).map (fun i => (i.zero, i.size, i.bytes)) = some (some (.bool false), 1, 1) := by kernel_rfl
theorem make_bool (w : World) (n : Nat) (hn : n < 2 ^ 40) :
    (Instr.makeSlice 53 (.int .i64 n) (.int .i64 n)).run Try.prog w = .ok (.slice (some ⟨w.heap.size, 0, none⟩) n n) (w.alloc (.cells ((List.replicate n false).map Value.bool).toArray 4)) := by
  obtain ⟨i0, hi, hz0, hz1, hz2⟩ := info_parts info_bool
  have := run_make (P := Try.prog) w 53 4 i0 (.bool false) Try.underlying53 hi hz0 .i64 .i64 n n (by omega) (by omega) (by rw [hz2]; omega) (by omega)
  rw [this, hz1]
  have e : ((List.replicate n false).map Value.bool).toArray = madeCells #[.bool false] n := by
    apply Array.ext'
    rw [toList_madeCells_one]
    simp
  rw [e]
  simp [Value.cells]
theorem alive_pre (w1 : World) (gr : Array Value) (nn : Nat) :
    Blk ((((w1.alloc (.cells gr 238)).alloc (.cells (Array.replicate nn (.bool false)) 4)).alloc (.cells #[.slice (some ⟨w1.heap.size + 1, 0, none⟩) nn nn] 53)).alloc (.cells #[.slice none 0 0] 43)) w1.heap.size 238 gr ∧ AWE (w1.heap.size + 1) ((((w1.alloc (.cells gr 238)).alloc (.cells (Array.replicate nn (.bool false)) 4)).alloc (.cells #[.slice (some ⟨w1.heap.size + 1, 0, none⟩) nn nn] 53)).alloc (.cells #[.slice none 0 0] 43)) (w1.heap.size + 1 + 1) (w1.heap.size + 1) (w1.heap.size + 1 + 1 + 1) nn (List.replicate nn false, []) ∧ Below w1.heap.size w1 ((((w1.alloc (.cells gr 238)).alloc (.cells (Array.replicate nn (.bool false)) 4)).alloc (.cells #[.slice (some ⟨w1.heap.size + 1, 0, none⟩) nn nn] 53)).alloc (.cells #[.slice none 0 0] 43)) ∧ ((((w1.alloc (.cells gr 238)).alloc (.cells (Array.replicate nn (.bool false)) 4)).alloc (.cells #[.slice (some ⟨w1.heap.size + 1, 0, none⟩) nn nn] 53)).alloc (.cells #[.slice none 0 0] 43)).heap.size = w1.heap.size + 4 := by
  have n0 := Blk.new w1 gr 238
  have b0 := below_box w1 gr 238
  have s0 : (w1.alloc (.cells gr 238)).heap.size = w1.heap.size + 1 := by simp
  generalize w1.alloc (.cells gr 238) = w2 at *
  have n1 := Blk.new w2 (Array.replicate nn (.bool false)) 4
  have b1 := b0.alloc (by omega) (.cells (Array.replicate nn (.bool false)) 4)
  have s1 : (w2.alloc (.cells (Array.replicate nn (.bool false)) 4)).heap.size = w2.heap.size + 1 := by simp
  have n0' := n0.any (.cells (Array.replicate nn (.bool false)) 4)
  generalize w2.alloc (.cells (Array.replicate nn (.bool false)) 4) = w3 at *
  have n2 := Blk.new w3 #[.slice (some ⟨w1.heap.size + 1, 0, none⟩) nn nn] 53
  have b2 := b1.alloc (by omega) (.cells #[.slice (some ⟨w1.heap.size + 1, 0, none⟩) nn nn] 53)
  have s2 : (w3.alloc (.cells #[.slice (some ⟨w1.heap.size + 1, 0, none⟩) nn nn] 53)).heap.size = w3.heap.size + 1 := by simp
  have n0'' := n0'.any (.cells #[.slice (some ⟨w1.heap.size + 1, 0, none⟩) nn nn] 53)
  have n1' := n1.any (.cells #[.slice (some ⟨w1.heap.size + 1, 0, none⟩) nn nn] 53)
  generalize w3.alloc (.cells #[.slice (some ⟨w1.heap.size + 1, 0, none⟩) nn nn] 53) = w4 at *
  have n3 := Blk.new w4 #[.slice none 0 0] 43
  have s3 : (w4.alloc (.cells #[.slice none 0 0] 43)).heap.size = w4.heap.size + 1 := by simp
  rw [s0] at n1'
  rw [show w3.heap.size = w1.heap.size + 1 + 1 by omega] at n2
  rw [show w4.heap.size = w1.heap.size + 1 + 1 + 1 by omega] at n3
  refine ⟨n0''.any _, ⟨.slice none 0 0, n2.any _, ?_, by simp, n3, World.ownsRow_nil _ _ _ _, by omega, by omega, by omega, by omega⟩, b2.alloc (by omega) _, by omega⟩
  have e : ((List.replicate nn false).map Value.bool).toArray = Array.replicate nn (.bool false) := by simp
  show Blk _ _ _ ((List.replicate nn false).map Value.bool).toArray
  rw [e]
  exact n1'.any _
/-- The cells of a row of the call's own, of one cell each. -/
theorem own_cells {w : World} {base n k : Nat} {e : TypeId} {A : Option Addr} {xs : List Value} (h : w.ownsRow base e 1 (.slice A n k) n xs) {j : Nat} {x : Value} (hx : xs[j]? = some x) : ∃ b, A = some ⟨b, 0, none⟩ ∧ b < w.heap.size ∧ w.cell? ⟨b, j, none⟩ = some x := by
  obtain ⟨hl, hf⟩ := id h
  have hj : j < xs.length := (List.getElem?_eq_some_iff.1 hx).1
  rcases hf with ⟨_, h0⟩ | ⟨g, cap, cur, e1, _, hblk, _⟩
  · omega
  · injection e1 with e2 e3 e4
    subst e2 e4
    exact ⟨g, rfl, Blk.lt hblk, by rw [h.cellAt j (by omega), hx]⟩
theorem own_le {w : World} {base size n : Nat} {e : TypeId} {v : Value} {xs : List Value} (h : w.ownsRow base e size v n xs) : n ≤ maxLen := by
  rcases h.2 with ⟨_, rfl⟩ | ⟨g, cap, cur, _, _, _, h1, h2, _⟩
  · omega
  · omega
theorem b_row {K : Nat → Prop} {w : World} {q mb k2 : Nat} {L : List St} {B : List (List Nat)} {SV : Value} {A2 : Option Addr} {vs : List Value} {D : DataW Unit} (h : GB K w q mb L B SV (.slice A2 B.length k2) vs D) {k : Nat} {ll : List Nat} (hl : B[k]? = some ll) :
    ll.length ≤ maxLen ∧ ∃ bb Ai ki, A2 = some ⟨bb, 0, none⟩ ∧ bb < w.heap.size ∧ w.cell? ⟨bb, k, none⟩ = some (.slice Ai ll.length ki) ∧ (∀ c (hc : c < ll.length), ∃ bi, Ai = some ⟨bi, 0, none⟩ ∧ bi < w.heap.size ∧ w.cell? ⟨bi, c, none⟩ = some (.int .i64 (ll[c] : Nat))) := by
  have hk : k < B.length := (List.getElem?_eq_some_iff.1 hl).1
  have hvl := h.vlen
  have hv : vs[k]? = some (vs[k]'(by omega)) := List.getElem?_eq_getElem _
  have hr := h.row k _ ll hv hl
  obtain ⟨Ai, ki, e⟩ := own_shape hr
  rw [e] at hv hr
  obtain ⟨bb, e2, hb, hc⟩ := own_cells h.bv hv
  refine ⟨own_le hr, bb, Ai, ki, e2, hb, hc, fun c hcl => ?_⟩
  exact own_cells hr (j := c) (x := .int .i64 (ll[c] : Nat)) (by rw [List.getElem?_map, List.getElem?_eq_getElem hcl]; rfl)
set_option maxRecDepth 10000 in
set_option maxHeartbeats 2000000 in
theorem alive_any (m a : Int) (A : Option Addr) (n k : Nat) (rs : List Rule) (w : World) (hn : rs.length = n) (hR : Rules w w.heap.size A rs) (hG : GoodL m a rs) (hmax : n ≤ 64) (hm : 1 ≤ m ∧ m ≤ 8) (ha : 0 ≤ a ∧ a < 256) :
    Calls Try.prog 148 #[.agg #[.int .i64 m, .int .u8 a, .slice A n k]] w (AlEnd a rs w) := by
  have HB := Lib.hid (below_box w #[.int .i64 m, .int .u8 a, .slice A n k] 30)
  have HT := Lib.hid (Blk.new w #[.int .i64 m, .int .u8 a, .slice A n k] 30)
  have HR := Lib.hid (hR.up HB.out)
  have HFT := Lib.hid hR.fit
  have HG := Lib.hid hG
  clear hR hG
  have hmf : ∀ (fn : Fn) (first cap : Array Value) (w : World), (Instr.makeFunc fn first cap).run Try.prog w = .ok (.func fn first cap) w := fun _ _ _ _ => rfl
  go_enter Try.func148, Try.ntmps148
  go_wp2_with fail
  generalize w.alloc (.cells #[.int .i64 m, .int .u8 a, .slice A n k] 30) = V at *
  obtain ⟨p, hp⟩ : ∃ p, w.heap.size = p := ⟨_, rfl⟩
  rw [hp] at HT ⊢
  have HP := Lib.hid hp
  clear hp
  refine (explore_any m a A n k rs V hn HR.out HG.out hmax hm).mono ?_
  rintro e w1 ⟨SV, BV, mb, vs, D, q, rfl, hg, hb1⟩
  have hok := theG_ok HG.out HFT.out hm.1
  have hlt := theG_lt rs
  have hle := hok.le ⟨by omega, hm.2⟩
  have HOK := Lib.hid hok
  have HLT := Lib.hid hlt
  obtain ⟨G, hGG⟩ : ∃ G, theG rs = G := ⟨_, rfl⟩
  have HGG := Lib.hid hGG
  rw [hGG] at hg hle HOK HLT
  obtain ⟨A1, k1, rfl⟩ := own_shape hg.sv
  obtain ⟨A2, k2, rfl⟩ := own_shape hg.bv
  have HG1 := Lib.hid hg
  have T1 := Lib.hid (HT.out.keep hb1 HT.out.lt)
  have B1 : Hid (Below w.heap.size w w1) := below_next HB.out hb1
  clear hg hb1 HB HT HR hok hlt hGG
  have hmk := make_bool
  have hnG : G.1.length < 2 ^ 40 := by omega
  have hmk2 := fun u : World => make_bool u G.1.length hnG
  clear hmk
  go_upto_region 5 with fail
  have HV := Lib.hid (alive_pre w1 #[.slice A1 G.1.length k1, .slice A2 G.2.length k2, .map (some mb)] G.1.length)
  have HST := Lib.hid (own_stAt HG1.out.sv)
  generalize ((((w1.alloc (.cells #[.slice A1 G.1.length k1, .slice A2 G.2.length k2, .map (some mb)] 238)).alloc (.cells (Array.replicate G.1.length (.bool false)) 4)).alloc (.cells #[.slice (some ⟨w1.heap.size + 1, 0, none⟩) G.1.length G.1.length] 53)).alloc (.cells #[.slice none 0 0] 43)) = V2 at *
  obtain ⟨h, hh⟩ : ∃ h, w1.heap.size = h := ⟨_, rfl⟩
  rw [hh] at HV HST
  simp only [hh]
  have HH := Lib.hid hh
  clear hh hmk2 hmf
  have g0 := HV.out.1.cell 0
  simp only [List.getElem?_toArray, List.getElem?_cons_zero] at g0
  have HT2 : Hid (Blk V2 p 30 #[.int .i64 m, .int .u8 a, .slice A n k]) := T1.out.keep HV.out.2.2.1 (by have := T1.out.lt; have := HH.out; omega)
  have hpl : p < h := by have := T1.out.lt; have := HH.out; omega
  have HST2 := Lib.hid (HST.out.keep HV.out.2.2.1)
  have HBV : Hid (Below w.heap.size w V2) := B1.out.trans (HV.out.2.2.1.mono (by have := HP.out; omega))
  have HAW := Lib.hid HV.out.2.1
  have HGR := Lib.hid HV.out.1
  have hVs : V2.heap.size = h + 4 := HV.out.2.2.2
  clear T1 HST B1
  go_wp2_with fail
  go_loopw [22] (fun x wr => ∃ j : Nat, x = .int .i64 j ∧ j ≤ G.1.length ∧ AWE (h + 1) wr (h + 1 + 1) (h + 1) (h + 1 + 1 + 1) G.1.length (accL a G.1 j) ∧ Below (h + 1) V2 wr) (fun x _ => G.1.length - (intOf x).toNat)
  case atStart => exact ⟨0, rfl, Nat.zero_le _, HAW.out, Below.refl _ _⟩
  case round =>
    obtain ⟨j, rfl, hj, haw, hb⟩ := hrel
    have HA := Lib.hid haw
    have HB := Lib.hid hb
    have hqle := (acc_ok (a := a) (L := G.1) j).le
    have t0 := (hb.cell (p := ⟨p, 0, none⟩) (by show p < _; omega)).trans (HT2.out.cell 0)
    have t1 := (hb.cell (p := ⟨p, 1, none⟩) (by show p < _; omega)).trans (HT2.out.cell 1)
    have t2 := (hb.cell (p := ⟨p, 2, none⟩) (by show p < _; omega)).trans (HT2.out.cell 2)
    simp only [List.getElem?_toArray, List.getElem?_cons_zero, List.getElem?_cons_succ] at t0 t1 t2
    clear g0 haw HAW
    by_cases hlt : j < G.1.length
    · obtain ⟨b, rfl, hbl, hc⟩ := HST2.out (by omega)
      obtain ⟨c0, c1, c2⟩ := hc j hlt
      have s0 := (hb.cell (p := ⟨b, j * 3, none⟩) (by show b < _; omega)).trans c0
      have s1 := (hb.cell (p := ⟨b, j * 3 + 1, none⟩) (by show b < _; omega)).trans c1
      have s2 := (hb.cell (p := ⟨b, j * 3 + 2, none⟩) (by show b < _; omega)).trans c2
      have HSJ : Hid (G.1[j]? = some (G.1[j]'hlt)) := List.getElem?_eq_getElem hlt
      have hsok : Hid ((G.1[j]'hlt).ok m) := HOK.out.1 _ (List.getElem_mem hlt)
      clear hc c0 c1 c2 hb
      generalize G.1[j]'hlt = st at *
      obtain ⟨mo, la, ne⟩ := st
      dsimp only at s0 s1 s2
      have HL := Lib.hid hlt
      have hj0 : (0 : Int) ≤ (j : Int) := by omega
      have hjn : (j : Int) < (G.1.length : Int) := by omega
      go_upto_region 8 with fail
      have BX := below_box wr #[.int .i64 mo, .int .i64 la, .int .u8 ne] 47
      have QX : Hid (Blk (wr.alloc (.cells #[.int .i64 mo, .int .i64 la, .int .u8 ne] 47)) wr.heap.size 47 #[.int .i64 mo, .int .i64 la, .int .u8 ne]) := Blk.new _ _ _
      have hws := HB.out.size
      have HA2 := Lib.hid (HA.out.below BX)
      have HB2 : Hid (Below (h + 1) V2 (wr.alloc (.cells #[.int .i64 mo, .int .i64 la, .int .u8 ne] 47))) := HB.out.trans (BX.mono (by omega))
      have x0 := keepC BX t0 (by omega)
      have x1 := keepC BX t1 (by omega)
      have x2 := keepC BX t2 (by omega)
      generalize wr.alloc (.cells #[.int .i64 mo, .int .i64 la, .int .u8 ne] 47) = wx at *
      obtain ⟨c, hc⟩ : ∃ c, wr.heap.size = c := ⟨_, rfl⟩
      rw [hc] at QX ⊢
      clear BX HA HB t0 t1 t2 s0 s1 s2
      have q0 := QX.out.cell 0
      have q1 := QX.out.cell 1
      have q2 := QX.out.cell 2
      simp only [List.getElem?_toArray, List.getElem?_cons_zero, List.getElem?_cons_succ] at q0 q1 q2
      go_wp2_with fail
      refine (accepts_any m a A n k ⟨mo, la, ne⟩ ha (hsok.out.fit hm.2) wx).mono ?_
      rintro e wy ⟨rfl, hby⟩
      have hxs := HB2.out.size
      have HA3 := Lib.hid (HA2.out.below hby)
      have HB3 : Hid (Below (h + 1) V2 wy) := HB2.out.trans (hby.mono (by omega))
      clear hby HA2 HB2 x0 x1 x2 q0 q1 q2 QX
      obtain ⟨ac, hac⟩ : ∃ ac, accB a ⟨mo, la, ne⟩ = ac := ⟨_, rfl⟩
      rw [hac]
      have HNX : Hid (accL a G.1 (j + 1) = if ac then wakeL (accL a G.1 j) j else accL a G.1 j) := by
        unfold Hid
        conv => lhs; unfold accL
        rw [HSJ.out]
        dsimp only
        rw [hac]
      clear hac
      cases ac
      · go_wp2_with fail
        refine ⟨⟨j + 1, by go_num, HL.out, by rw [HNX.out]; exact HA3.out, HB3.out⟩, ?_⟩
        have := HL.out; simp [intOf]; omega
      · go_wp2_with (go_at_call 169; refine (wake_any (h + 1) (h + 1 + 1) (h + 1) (h + 1 + 1 + 1) G.1.length j (accL a G.1 j) wy HA3.out HL.out (by omega)).mono ?_; rintro e wz ⟨rfl, hz, hbz⟩)
        have HB4 : Hid (Below (h + 1) V2 wz) := HB3.out.trans hbz
        refine ⟨⟨j + 1, by go_num, HL.out, by rw [HNX.out]; simpa using hz, HB4.out⟩, ?_⟩
        have := HL.out; simp [intOf]; omega
    · have : j = G.1.length := by omega
      subst this
      have HOA := Lib.hid (acc_ok (a := a) (L := G.1) G.1.length)
      have hal : Hid (aliveL a G = (propL G.2 4000 0 (accL a G.1 G.1.length)).1) := rfl
      generalize accL a G.1 G.1.length = p0 at *
      have HB0 := Lib.hid hb
      clear hb hlt t0 t1 t2 hqle hj
      go_wp2_with fail
      go_loopw [9] (fun x wr => ∃ (j : Nat) (pp : Aw), x = .int .i64 j ∧ j ≤ pp.2.length ∧ OkA G.1.length pp ∧ propL G.2 (4000 - j) j pp = propL G.2 4000 0 p0 ∧ AWE (h + 1) wr (h + 1 + 1) (h + 1) (h + 1 + 1 + 1) G.1.length pp ∧ Below (h + 1) V2 wr) (fun x _ => 4000 - (intOf x).toNat)
      case atStart => exact ⟨0, p0, rfl, Nat.zero_le _, HOA.out, rfl, HA.out, HB0.out⟩
      case round =>
        obtain ⟨j, pp, rfl, hj, hok, hpr, haw, hb⟩ := hrel
        clear HOA HA HB0
        have hle2 := hok.le
        obtain ⟨QV, hA⟩ := haw
        obtain ⟨Aq, cq, rfl⟩ := own_shape hA.hq
        have t0 := hA.hwt.cell 0
        have al0 := hA.hal.cell 0
        simp only [List.getElem?_toArray, List.getElem?_cons_zero] at t0 al0
        have g1 := (hb.cell (p := ⟨h, 1, none⟩) (by show h < _; omega)).trans (HGR.out.cell 1)
        simp only [List.getElem?_toArray, List.getElem?_cons_zero, List.getElem?_cons_succ] at g1
        have HA := Lib.hid hA
        have HB := Lib.hid hb
        have HOK2 := Lib.hid hok
        have HPR := Lib.hid hpr
        by_cases hlt : j < pp.2.length
        · have HK : Hid (pp.2[j]? = some (pp.2[j]'hlt)) := List.getElem?_eq_getElem hlt
          have hkn := (hok.2.2 _ (List.getElem_mem hlt)).1
          obtain ⟨bq, rfl, hbq, hcq⟩ := own_cells hA.hq (j := j) (x := .int .i64 (pp.2[j]'hlt : Nat)) (by rw [List.getElem?_map, List.getElem?_eq_getElem hlt]; rfl)
          generalize pp.2[j]'hlt = kk at *
          have hkB : kk < G.2.length := by have := HOK.out.2.2; omega
          have hls : G.2[kk]? = some (G.2[kk]'hkB) := List.getElem?_eq_getElem _
          have hll := HLT.out _ (List.getElem_mem hkB)
          generalize G.2[kk]'hkB = ll at *
          obtain ⟨hmx, bb, Ai, ki, rfl, hbb, hcb, hci⟩ := b_row HG1.out hls
          have hw1 := HH.out
          have d0 := (hb.cell (p := ⟨bb, kk, none⟩) (by show bb < _; omega)).trans ((HV.out.2.2.1.cell (p := ⟨bb, kk, none⟩) (by show bb < _; omega)).trans hcb)
          have HLL := Lib.hid hll
          have HLS := Lib.hid hls
          have HCI : Hid (∀ c (hc : c < ll.length), ∃ bi, Ai = some ⟨bi, 0, none⟩ ∧ bi < h ∧ V2.cell? ⟨bi, c, none⟩ = some (.int .i64 (ll[c] : Nat))) := fun c hc => by
            obtain ⟨bi, e, hbi, hcc⟩ := hci c hc
            exact ⟨bi, e, by omega, (HV.out.2.2.1.cell (p := ⟨bi, c, none⟩) (by show bi < _; omega)).trans hcc⟩
          have hj0 : (0 : Int) ≤ (j : Int) := by omega
          have hjn : (j : Int) < (pp.2.length : Int) := by omega
          have hk0 : (0 : Int) ≤ (kk : Int) := by omega
          have hk1 : (kk : Int) < (G.2.length : Int) := by omega
          have HL := Lib.hid hlt
          clear hA hb hok hpr hci hll hls hcb
          go_upto_region 14 with fail
          go_region
          have HAD : Hid (AWE (h + 1) wr.drew (h + 1 + 1) (h + 1) (h + 1 + 1 + 1) G.1.length pp) := ⟨_, HA.out.hal, HA.out.hab, HA.out.hlen, HA.out.hwt, HA.out.hq, HA.out.nal, HA.out.nab, HA.out.nwt, HA.out.nn⟩
          have HBD : Hid (Below (h + 1) V2 wr.drew) := HB.out.drew
          clear t0 al0 g1 d0 hcq HA HB hbq
          generalize wr.drew = wd at *
          have hmx2 : ll.length ≤ 9223372036854775807 := by unfold maxLen at hmx; omega
          go_wp2_with fail
          go_loopw [49] (fun x wx => ∃ c : Nat, x = .int .i64 c ∧ c ≤ ll.length ∧ AWE (h + 1) wx (h + 1 + 1) (h + 1) (h + 1 + 1 + 1) G.1.length ((ll.take c).foldl wakeL pp) ∧ Below (h + 1) V2 wx) (fun x _ => ll.length - (intOf x).toNat)
          case atStart => exact ⟨0, rfl, Nat.zero_le _, HAD.out, HBD.out⟩
          case round =>
            obtain ⟨c, rfl, hc, haw, hb⟩ := hrel
            clear HAD HBD
            have hokc := fold_ok (ll.take c) HOK2.out (fun x hx => HLL.out x (List.mem_of_mem_take hx))
            have hlec := hokc.le
            have HAC := Lib.hid haw
            have HBC := Lib.hid hb
            clear haw hb hokc
            by_cases hcl : c < ll.length
            · obtain ⟨bi, rfl, hbi, hcc⟩ := HCI.out c hcl
              have d0 := (HBC.out.cell (p := ⟨bi, c, none⟩) (by show bi < _; omega)).trans hcc
              have hxl := HLL.out _ (List.getElem_mem hcl)
              have HST : Hid ((ll.take (c + 1)).foldl wakeL pp = wakeL ((ll.take c).foldl wakeL pp) (ll[c]'hcl)) := by
                unfold Hid; rw [List.take_succ_eq_append_getElem hcl, List.foldl_append]; rfl
              clear hcc
              generalize ll[c]'hcl = xx at *
              have hc0 : (0 : Int) ≤ (c : Int) := by omega
              have hcn : (c : Int) < (ll.length : Int) := by omega
              have HC := Lib.hid hcl
              go_wp2_with (go_at_call 169; refine (wake_any (h + 1) (h + 1 + 1) (h + 1) (h + 1 + 1 + 1) G.1.length xx ((ll.take c).foldl wakeL pp) wr HAC.out hxl (by omega)).mono ?_; rintro e wz ⟨rfl, hz, hbz⟩)
              have HB4 : Hid (Below (h + 1) V2 wz) := HBC.out.trans hbz
              refine ⟨⟨c + 1, by go_num, HC.out, by rw [HST.out]; exact hz, HB4.out⟩, ?_⟩
              have := HC.out; simp [intOf]; omega
            · have : c = ll.length := by omega
              subst this
              rw [List.take_length] at HAC
              have hok3 := fold_ok ll HOK2.out HLL.out
              have HNX : Hid (propL G.2 (4000 - (j + 1)) (j + 1) (ll.foldl wakeL pp) = propL G.2 4000 0 p0) := by
                unfold Hid
                rw [← HPR.out, show 4000 - j = (4000 - (j + 1)) + 1 by have := HL.out; omega]
                conv => rhs; unfold propL
                rw [HK.out]
                dsimp only
                rw [List.getD_eq_getElem?_getD, HLS.out]
                rfl
              have HOK3 := Lib.hid hok3
              have hgr : pp.2.length ≤ (ll.foldl wakeL pp).2.length := fold_grow ll pp
              clear hok3
              go_wp2_with fail
              refine ⟨⟨j + 1, _, by go_num, Nat.le_trans HL.out hgr, HOK3.out, HNX.out, HAC.out, HBC.out⟩, ?_⟩
              have := HL.out; simp [intOf]; omega
        · have : j = pp.2.length := by omega
          have HFIN : Hid (aliveL a G = pp.1) := by
            unfold Hid
            rw [hal.out, ← HPR.out, show 4000 - j = (4000 - j - 1) + 1 by omega]
            unfold propL
            rw [List.getElem?_eq_none (by omega)]
          have hE : Hid (AlEnd a rs w (.returned (.slice (some ⟨h + 1, 0, none⟩) G.1.length G.1.length)) wr) := by
            refine ⟨h + 1, by rw [HGG.out], ?_, ?_, ?_, HBV.out.trans (HB.out.mono (by have := HP.out; omega))⟩
            · rw [HGG.out, HFIN.out]; exact HA.out.hab
            · rw [HGG.out, HFIN.out]; exact HA.out.hlen
            · have := HP.out; omega
          have hjn : ¬ (j : Int) < (pp.2.length : Int) := by omega
          clear HA HB hA hb
          go_wp2_with fail
          go_ret
          exact hE.out
end Go.Proofs.Ytpkdlljefkbmpaa

/-! The states of a table: they begin with the first one, are closed under steps, each is reached from an earlier one. -/
namespace Go.Proofs.Ytpkdlljefkbmpaa
open Go.RowKit Go.Maps
theorem insS_more (L : List St) (u : St) : ∃ M, insS L u = L ++ M := by
  unfold insS; split
  · exact ⟨[], by simp⟩
  · exact ⟨[u], rfl⟩
theorem edge_more (rs : List Rule) (i : Nat) (s : St) (r : Nat) (G : Gr) : ∃ M, (edgeG rs i s r G).1 = G.1 ++ M := by
  unfold edgeG; split
  · exact insS_more _ _
  · exact ⟨[], by simp⟩
theorem row_more (rs : List Rule) (i : Nat) (s : St) (G : Gr) : ∀ n, ∃ M, (rowG rs i s n G).1 = G.1 ++ M := by
  intro n
  induction n with
  | zero => exact ⟨[], by simp [rowG]⟩
  | succ n ih =>
    obtain ⟨M, h⟩ := ih
    obtain ⟨M2, h2⟩ := edge_more rs i s n (rowG rs i s n G)
    exact ⟨M ++ M2, by unfold rowG; rw [h2, h, List.append_assoc]⟩
theorem more_at {L L' : List St} (h : ∃ M, L' = L ++ M) {j : Nat} {s : St} (hj : L[j]? = some s) : L'[j]? = some s := by
  obtain ⟨M, rfl⟩ := h
  rw [List.getElem?_append_left (List.getElem?_eq_some_iff.1 hj).1]; exact hj
theorem at_more {L L' : List St} (h : ∃ M, L' = L ++ M) {j : Nat} {s : St} (hl : j < L.length) (hj : L'[j]? = some s) : L[j]? = some s := by
  obtain ⟨M, rfl⟩ := h
  rwa [List.getElem?_append_left hl] at hj
theorem insS_at {L : List St} {u s : St} {x : Nat} (h : (insS L u)[x]? = some s) : L[x]? = some s ∨ (x = L.length ∧ s = u) := by
  unfold insS at h
  split at h
  · exact .inl h
  · rcases Nat.lt_or_ge x L.length with g | g
    · rw [List.getElem?_append_left g] at h; exact .inl h
    · rw [List.getElem?_append_right g] at h
      have := (List.getElem?_eq_some_iff.1 h).1
      have e : x - L.length = 0 := by simp at this; omega
      rw [e] at h
      simp at h
      exact .inr ⟨by omega, h.symm⟩
def Reach (rs : List Rule) (L : List St) : Prop := ∀ (x : Nat) (s : St), L[x]? = some s → x = 0 ∨ ∃ (j k : Nat) (t : St), j < x ∧ k < rs.length ∧ L[j]? = some t ∧ stepS rs t k = (s, true)
theorem edge_reach {rs : List Rule} {i r : Nat} {s : St} {G : Gr} (h : Reach rs G.1) (hs : G.1[i]? = some s) (hr : r < rs.length) : Reach rs (edgeG rs i s r G).1 := by
  intro x u hx
  have hm := edge_more rs i s r G
  unfold edgeG at hx
  split at hx
  · rename_i hc
    rcases insS_at hx with g | ⟨g1, g2⟩
    · rcases h x u g with e | ⟨j, k, t, h1, h2, h3, h4⟩
      · exact .inl e
      · exact .inr ⟨j, k, t, h1, h2, more_at hm h3, h4⟩
    · refine .inr ⟨i, r, s, ?_, hr, more_at hm hs, ?_⟩
      · have := (List.getElem?_eq_some_iff.1 hs).1; omega
      · rw [g2]; exact Prod.ext rfl hc.1
  · rcases h x u hx with e | ⟨j, k, t, h1, h2, h3, h4⟩
    · exact .inl e
    · exact .inr ⟨j, k, t, h1, h2, more_at hm h3, h4⟩
theorem row_reach {rs : List Rule} {i : Nat} {s : St} {G : Gr} (h : Reach rs G.1) (hs : G.1[i]? = some s) : ∀ n, n ≤ rs.length → Reach rs (rowG rs i s n G).1 := by
  intro n
  induction n with
  | zero => intro _; exact h
  | succ n ih => intro hn; exact edge_reach (ih (by omega)) (more_at (row_more rs i s G n) hs) (by omega)
theorem theG_reach (rs : List Rule) : Reach rs (theG rs).1 :=
  exp_inv (fun G => Reach rs G.1) (fun _ _ _ h hs => row_reach h hs _ (Nat.le_refl _)) _ _ _ (fun x s hx => by
    have := (List.getElem?_eq_some_iff.1 hx).1
    left; simp [startG] at this; exact this)
theorem theG_first (rs : List Rule) : (theG rs).1[0]? = some St.start :=
  exp_inv (fun G => G.1[0]? = some St.start) (fun i s G h _ => more_at (row_more rs i s G _) h) _ _ _ rfl
def Clo (rs : List Rule) (L : List St) (i : Nat) : Prop := ∀ (j : Nat) (t : St), j < i → L[j]? = some t → ∀ k, k < rs.length → (stepS rs t k).2 = true → (stepS rs t k).1 ∈ L
theorem mem_more {L L' : List St} (h : ∃ M, L' = L ++ M) {s : St} (hs : s ∈ L) : s ∈ L' := by
  obtain ⟨M, rfl⟩ := h
  exact List.mem_append.2 (.inl hs)
theorem edge_mem {rs : List Rule} {i r : Nat} {s : St} {G : Gr} (hs : G.1[i]? = some s) (h2 : (stepS rs s r).2 = true) : (stepS rs s r).1 ∈ (edgeG rs i s r G).1 := by
  unfold edgeG
  split
  · exact mem_insS.2 (.inr rfl)
  · rename_i hc
    have : (stepS rs s r).1 = s := Classical.byContradiction fun e => hc ⟨h2, e⟩
    rw [this]; exact List.mem_of_getElem? hs
theorem row_mem {rs : List Rule} {i : Nat} {s : St} {G : Gr} (hs : G.1[i]? = some s) : ∀ n k : Nat, k < n → (stepS rs s k).2 = true → (stepS rs s k).1 ∈ (rowG rs i s n G).1 := by
  intro n
  induction n with
  | zero => intro k hk; omega
  | succ n ih =>
    intro k hk h2
    rcases Nat.lt_or_ge k n with g | g
    · exact mem_more (edge_more rs i s n _) (ih k g h2)
    · obtain rfl : k = n := by omega
      exact edge_mem (more_at (row_more rs i s G k) hs) h2
theorem row_clo {rs : List Rule} {i : Nat} {s : St} {G : Gr} (h : Clo rs G.1 i) (hs : G.1[i]? = some s) : Clo rs (rowG rs i s rs.length G).1 (i + 1) := by
  intro j t hj ht k hk h2
  have hm := row_more rs i s G rs.length
  have hil := (List.getElem?_eq_some_iff.1 hs).1
  have ht' := at_more hm (show j < G.1.length by omega) ht
  rcases Nat.lt_or_ge j i with g | g
  · exact mem_more hm (h j t g ht' k hk h2)
  · obtain rfl : j = i := by omega
    rw [hs] at ht'
    cases ht'
    exact row_mem hs _ k hk h2
theorem exp_clo {rs : List Rule} : ∀ f i G, Clo rs G.1 i → (expG rs f i G).1.length < i + f → Clo rs (expG rs f i G).1 (expG rs f i G).1.length := by
  intro f
  induction f with
  | zero =>
    intro i G h hl j t hj
    have : expG rs 0 i G = G := rfl
    rw [this] at hl hj ⊢
    exact h j t (by omega)
  | succ f ih =>
    intro i G h hl
    unfold expG at hl ⊢
    cases hs : G.1[i]? with
    | none =>
      rw [hs] at hl
      dsimp only at hl ⊢
      intro j t hj
      have : G.1.length ≤ i := by
        rcases Nat.lt_or_ge i G.1.length with g | g
        · rw [List.getElem?_eq_getElem g] at hs; cases hs
        · exact g
      exact h j t (by omega)
    | some s =>
      rw [hs] at hl
      dsimp only at hl ⊢
      exact ih _ _ (row_clo h hs) (by omega)
theorem theG_clo {m a : Int} {rs : List Rule} (hG : GoodL m a rs) (hf : ∀ x ∈ rs, x.fits) (hm : 1 ≤ m ∧ m ≤ 8) : Clo rs (theG rs).1 (theG rs).1.length :=
  exp_clo 4000 0 startG (fun j t hj => by omega) (by have := (theG_ok hG hf hm.1).le ⟨by omega, hm.2⟩; unfold theG at this; omega)
theorem nodup_idx {L : List St} (h : L.Nodup) {i : Nat} {s : St} (hi : L[i]? = some s) : idxI L s = i := by
  refine idx_at (fun j hj e => ?_) hi
  obtain ⟨h1, e1⟩ := List.getElem?_eq_some_iff.1 hi
  obtain ⟨h2, e2⟩ := List.getElem?_eq_some_iff.1 e
  have := (List.getElem_inj (h₀ := h2) (h₁ := h1) h).1 (e2.trans e1.symm)
  omega
theorem idx_mem {L : List St} {s : St} (h : s ∈ L) : ∃ j : Nat, idxI L s = j ∧ L[j]? = some s := by
  unfold idxI
  rw [if_pos h]
  refine ⟨L.idxOf s, rfl, ?_⟩
  have hl := List.idxOf_lt_length_of_mem h
  rw [List.getElem?_eq_getElem hl, List.getElem_idxOf]
end Go.Proofs.Ytpkdlljefkbmpaa
