/- Package table: Parse. -/
import Derived.Test.YtiedaongfjcbhabGreatDoorPar6
namespace Go.Proofs.YtiedaongfjcbhabGreatDoor
open Go.RowKit

def zeroT : Value := .agg #[.int .i64 0, .int .u8 0, .slice none 0 0]
/-- What Parse hands back. -/
def ParseEnd (l : List UInt8) (w : World) (e : Ending) (w' : World) : Prop :=
  Below w.heap.size w w' ∧ match parseT l with
    | .form n => e = .returned (.tuple #[zeroT, .int .i64 (n : Nat), .int .i64 3])
    | .done m a rs => if chkE m a rs = 0 then (0 ≤ a ∧ a < 256) ∧ ∃ A k, rs.length ≤ k ∧ e = .returned (.tuple #[.agg #[.int .i64 m, .int .u8 a, .slice A rs.length k], .int .i64 0, .int .i64 0]) ∧ Rules w' w'.heap.size A rs
        else e = .returned (.tuple #[zeroT, .int .i64 (chkI m a rs), .int .i64 (chkE m a rs)])
theorem ParseEnd.form {l : List UInt8} {w w' : World} {n : Nat} (h : parseT l = .form n) (hb : Below w.heap.size w w') : ParseEnd l w (.returned (.tuple #[zeroT, .int .i64 (n : Nat), .int .i64 3])) w' := by
  refine ⟨hb, ?_⟩
  rw [h]
theorem ParseEnd.bad {l : List UInt8} {w w' : World} {m a : Int} {rs : List Rule} (h : parseT l = .done m a rs) (he : ¬ chkE m a rs = 0) (hb : Below w.heap.size w w') : ParseEnd l w (.returned (.tuple #[zeroT, .int .i64 (chkI m a rs), .int .i64 (chkE m a rs)])) w' := by
  refine ⟨hb, ?_⟩
  rw [h]
  simp [he]
theorem ParseEnd.good {l : List UInt8} {w w' : World} {m a : Int} {rs : List Rule} {A : Option Addr} {k : Nat} (h : parseT l = .done m a rs) (he : chkE m a rs = 0) (hb : Below w.heap.size w w') (ha : 0 ≤ a ∧ a < 256) (hk : rs.length ≤ k) (hr : Rules w' w'.heap.size A rs) : ParseEnd l w (.returned (.tuple #[.agg #[.int .i64 m, .int .u8 a, .slice A rs.length k], .int .i64 0, .int .i64 0])) w' := by
  refine ⟨hb, ?_⟩
  rw [h]
  simp only
  rw [if_pos he]
  exact ⟨ha, A, k, hk, rfl, hr⟩
theorem Rules.set {w : World} {A : Option Addr} {rs : List Rule} {q i lo : Nat} (h : Rules w lo A rs) (hlo : lo ≤ q) (v : Value) : Rules (w.setCell ⟨q, i, none⟩ v) lo A rs := h.keep ((Below.refl lo w).setCell hlo v)
theorem info_rule : (Tryz.prog.info? 43).map (fun i => (i.zero, i.size, i.bytes)) = some (some (.agg #[.string ⟨#[]⟩, .slice none 0 0, .int .u8 0, .int .u8 0, .int .i64 0, .int .i64 0]), 6, 64) := by kernel_rfl
theorem own_ne2 {w : World} {base size n g : Nat} {e t : TypeId} {v : Value} {xs : List Value} {row : Array Value} (h : w.ownsRow base e size v n xs) (hg : Blk w g t row) (hne : e ≠ t) : v.ownBlock = none ∨ v.ownBlock ≠ some g := by
  rcases h.2 with ⟨rfl, _⟩ | ⟨q, cap, cur, rfl, _, hblk, _⟩
  · exact .inl rfl
  · refine .inr (fun e2 => ?_)
    have e3 : q = g := by simpa [Value.ownBlock] using e2
    exact Blk.type_ne hblk hg hne e3
theorem own_ne3 {w : World} {base size n g : Nat} {e t : TypeId} {v : Value} {xs : List Value} {row : Array Value} (h : w.ownsRow base e size v n xs) (hg : Blk w g t row) (hne : e ≠ t) : v.ownBlock ≠ some g := by
  intro e2
  rcases own_ne2 h hg hne with h | h
  · rw [h] at e2; cases e2
  · exact h e2
theorem own_set {w : World} {base size n q i : Nat} {e t : TypeId} {v : Value} {xs : List Value} {row : Array Value} (h : w.ownsRow base e size v n xs) (hQ : Blk w q t row) (hne : e ≠ t) (u : Value) : (w.setCell ⟨q, i, none⟩ u).ownsRow base e size v n xs :=
  h.kept (gb_setCell _ _ _ _) (own_ne2 h hQ hne)
theorem Blk.box {w : World} {q : Nat} {t e : TypeId} {row vs : Array Value} (h : Blk w q t row) : Blk (w.alloc (.cells vs e)) q t row := h.keep (below_box _ _ _) (Blk.lt h)
theorem Blk.row {w w' : World} {base size n q : Nat} {e t : TypeId} {v : Value} {xs : List Value} {row : Array Value} (h : w.ownsRow base e size v n xs) (hg : w.grownBy w' v.ownBlock) (hQ : Blk w q t row) (hne : e ≠ t) : Blk w' q t row := (hg.block q (Blk.lt hQ) (own_ne3 h hQ hne).symm).trans hQ
set_option maxRecDepth 10000 in
set_option maxHeartbeats 4000000 in
theorem parseTab_any (s : ByteArray) (w : World) (hmax : s.size < 2 ^ 30) (hL : Laid w) :
    Calls Tryz.prog 7 #[.string s] w (ParseEnd s.data.toList w) := by
  obtain ⟨i0, hi, hz0, hz1, hz2⟩ := info_parts info_rule
  have HL := Lib.hid hL
  clear hL
  go_enter Tryz.func7, Tryz.ntmps7
  go_wp2_with fail
  have hP2 : Hid (Blk (((w.alloc (.cells #[.int .i64 0, .int .u8 0, .slice none 0 0] 28)).alloc (.cells #[.int .i64 0, .int .u8 0, .slice none 0 0] 28)).alloc (.cells #[.string s, .bool false] 57)) w.heap.size 28 #[.int .i64 0, .int .u8 0, .slice none 0 0]) := (Below.heap_alloc _ _ _ (by simp; omega)).trans (heap_alloc2_old _ _ _)
  have hP5 : Hid (Blk (((w.alloc (.cells #[.int .i64 0, .int .u8 0, .slice none 0 0] 28)).alloc (.cells #[.int .i64 0, .int .u8 0, .slice none 0 0] 28)).alloc (.cells #[.string s, .bool false] 57)) (w.heap.size + 1) 28 #[.int .i64 0, .int .u8 0, .slice none 0 0]) := (Below.heap_alloc _ _ _ (by simp)).trans (heap_alloc2_new _ _ _)
  have hP6 : Hid (Blk (((w.alloc (.cells #[.int .i64 0, .int .u8 0, .slice none 0 0] 28)).alloc (.cells #[.int .i64 0, .int .u8 0, .slice none 0 0] 28)).alloc (.cells #[.string s, .bool false] 57)) (w.heap.size + 1 + 1) 57 #[.string s, .bool false]) := by
    have := Blk.new ((w.alloc (.cells #[.int .i64 0, .int .u8 0, .slice none 0 0] 28)).alloc (.cells #[.int .i64 0, .int .u8 0, .slice none 0 0] 28)) #[.string s, .bool false] 57
    unfold Hid; simpa using this
  have hBB : Hid (Below w.heap.size w (((w.alloc (.cells #[.int .i64 0, .int .u8 0, .slice none 0 0] 28)).alloc (.cells #[.int .i64 0, .int .u8 0, .slice none 0 0] 28)).alloc (.cells #[.string s, .bool false] 57))) := (((Below.refl _ _).alloc (Nat.le_refl _) _).alloc (by simp) _).alloc (by simp; omega) _
  generalize ((w.alloc (.cells #[.int .i64 0, .int .u8 0, .slice none 0 0] 28)).alloc (.cells #[.int .i64 0, .int .u8 0, .slice none 0 0] 28)).alloc (.cells #[.string s, .bool false] 57) = V at *
  obtain ⟨q2, hq2⟩ : ∃ q, w.heap.size = q := ⟨_, rfl⟩
  obtain ⟨q5, hq5⟩ : ∃ q, q2 + 1 = q := ⟨_, rfl⟩
  obtain ⟨q6, hq6⟩ : ∃ q, q5 + 1 = q := ⟨_, rfl⟩
  rw [hq2] at hP2
  rw [hq2, hq5] at hP5
  rw [hq2, hq5, hq6] at hP6
  simp only [hq2, hq5, hq6]
  have n25 : q2 ≠ q5 := by omega
  have n26 : q2 ≠ q6 := by omega
  have n56 : q5 ≠ q6 := by omega
  have l2 : w.heap.size ≤ q2 := by omega
  have l5 : w.heap.size ≤ q5 := by omega
  have l6 : w.heap.size ≤ q6 := by omega
  have HQ := Lib.hid (And.intro hq2 (And.intro hq5 hq6))
  clear hq2 hq5 hq6
  go_loopg [7] (s.size + 2) (fun gk i wr => ∃ (n : Nat) (R : List UInt8) (m a : Int) (v : Value) (vals : List Value) (rs : List Rule), i = .int .i64 n ∧ Blk wr q6 57 #[.string (strU R), .bool false] ∧ Blk wr q5 28 #[.int .i64 m, .int .u8 a, v] ∧ Blk wr q2 28 #[.int .i64 0, .int .u8 0, .slice none 0 0] ∧ wr.ownsRow (q6 + 1) 43 6 v rs.length vals ∧ RulesV wr w.heap.size vals rs ∧ Below w.heap.size w wr ∧ (0 ≤ a ∧ a < 256) ∧ R.length + 1 ≤ gk ∧ n + R.length ≤ s.size ∧ rs.length ≤ n ∧ parseT s.data.toList = parseG (R.length + 2) n R m a rs)
  case atStart => exact ⟨0, s.data.toList, 0, 0, _, [], [], rfl, by rw [strU_of]; exact hP6.out, hP5.out, hP2.out, World.ownsRow_nil _ _ _ _, RulesV.nil, hBB.out, ⟨by omega, by omega⟩, by simp, by simp, by simp, rfl⟩
  case round =>
    obtain ⟨n, R, m, a, v, vals, rs, rfl, h6, h5, h2, hown, hrv, hbb, ha, hgk, hnR, hrn, hps⟩ := hrel
    clear hP2 hP5 hP6 hBB
    have H6 := Lib.hid h6
    have H5 := Lib.hid h5
    have H2 := Lib.hid h2
    have HOWN := Lib.hid hown
    have HRV := Lib.hid hrv
    have HBB := Lib.hid hbb
    have HPS := Lib.hid hps
    have z6 := Blk.lt h6
    have f6 := h6.cell 0
    have f61 := h6.cell 1
    simp at f6 f61
    clear h6 h5 h2 hown hrv hbb hps
    have hRl : (strU R).size < 2 ^ 40 := by rw [strU_size]; omega
    by_cases hn : n = 0
    · subst hn
      go_wp2_with fail
      refine (piece_any q6 57 (strU R) false [] 10 _ H6.out hRl).mono ?_
      rintro e w1 ⟨rfl, hb, hg⟩
      rw [strU_data] at hb ⊢
      have B6 := Lib.hid hb
      have G1 := Lib.hid hg
      clear hb hg
      have hL1 : (pieceL 10 R).length < 2 ^ 40 := by have := (restL_len 10 R).2; omega
      have A0 : Hid ((lineF (pieceL 10 R)).at_ (w1.alloc (.cells #[.string (strU (pieceL 10 R)), .bool false, .bool false] 60)) w1.heap.size) := Blk.new _ _ _
      have BB1 := Lib.hid (HBB.out.trans (below_gb G1.out (by have := HBB.out.size; omega) l6))
      have BB2 := Lib.hid (BB1.out.alloc BB1.out.size (.cells #[.string (strU (pieceL 10 R)), .bool false, .bool false] 60))
      have K5 := Lib.hid ((Below.heap_alloc w1 (.cells #[.string (strU (pieceL 10 R)), .bool false, .bool false] 60) q5 (Nat.lt_of_lt_of_le (Blk.lt H5.out) G1.out.size)).trans (H5.out.gb G1.out n56))
      have K2 := Lib.hid ((Below.heap_alloc w1 (.cells #[.string (strU (pieceL 10 R)), .bool false, .bool false] 60) q2 (Nat.lt_of_lt_of_le (Blk.lt H2.out) G1.out.size)).trans (H2.out.gb G1.out n26))
      have K6 := Lib.hid ((Below.heap_alloc w1 (.cells #[.string (strU (pieceL 10 R)), .bool false, .bool false] 60) q6 (Blk.lt B6.out)).trans B6.out)
      have RV1 := Lib.hid ((HRV.out.gb G1.out H6.out (by decide)).below (below_box w1 #[.string (strU (pieceL 10 R)), .bool false, .bool false] 60))
      have OW1 := Lib.hid ((HOWN.out.kept G1.out (own_ne HOWN.out)).alloc (.cells #[.string (strU (pieceL 10 R)), .bool false, .bool false] 60))
      have hg6 : q6 < w1.heap.size := Blk.lt B6.out
      obtain ⟨g, hge⟩ : ∃ g, w1.heap.size = g := ⟨_, rfl⟩
      have ng6 : q6 ≠ g := by omega
      have HQQ := HQ.out
      have ng5 : q5 ≠ g := by omega
      have ng2 : q2 ≠ g := by omega
      have lg : w.heap.size ≤ g := by omega
      have lg6 : q6 + 1 ≤ g := by omega
      clear HQQ
      go_wp2_with fail
      rw [hge] at A0
      have HGE := Lib.hid hge
      clear hge
      generalize w1.alloc (.cells #[.string (strU (pieceL 10 R)), .bool false, .bool false] 60) = X2 at *
      refine (modes_any g (lineF (pieceL 10 R)) _ A0.out hL1 (LaidG.of HL.out BB2.out lg)).mono ?_
      rintro e w3 ⟨rfl, hb3, hg3⟩
      have A3 := Lib.hid hb3
      have C5 := Lib.hid (Blk.gb K5.out hg3 ng5)
      have C2 := Lib.hid (Blk.gb K2.out hg3 ng2)
      have C6 := Lib.hid (Blk.gb K6.out hg3 ng6)
      have RV3 := Lib.hid (RV1.out.gb hg3 A0.out (by decide))
      have BB3 := Lib.hid (BB2.out.trans (below_gb hg3 BB2.out.size lg))
      have OW3 := Lib.hid (OW1.out.kept hg3 (own_ne2 OW1.out A0.out (by decide)))
      clear hb3 hg3
      have f50 := C5.out.cell 0
      have f51 := C5.out.cell 1
      have z50 := C5.out.free 0
      have z51 := C5.out.free 1
      have f61 := C6.out.cell 1
      simp at f50 f51 f61
      have bm := num_bd (lineF (pieceL 10 R)).m1 999 (by omega)
      have ba := num_bd (lineF (pieceL 10 R)).m3 255 (by omega)
      have r2a := C2.out.cell 0
      have r2b := C2.out.cell 1
      have r2c := C2.out.cell 2
      have y2a := C2.out.free 0
      have y2b := C2.out.free 1
      have y2c := C2.out.free 2
      simp at r2a r2b r2c
      cases hu : usedB 10 R false
      · rw [hu] at f61
        have W4 : Hid ((lineF (pieceL 10 R)).m4.at_ ((w3.setCell ⟨q5, 0, none⟩ (.int .i64 ((lineF (pieceL 10 R)).m1.num 999))).setCell ⟨q5, 1, none⟩ (.int .u8 ((lineF (pieceL 10 R)).m3.num 255))) g) := at_set _ (at_set _ A3.out ng5.symm) ng5.symm
        have D5 : Hid (Blk ((w3.setCell ⟨q5, 0, none⟩ (.int .i64 ((lineF (pieceL 10 R)).m1.num 999))).setCell ⟨q5, 1, none⟩ (.int .u8 ((lineF (pieceL 10 R)).m3.num 255))) q5 28 #[.int .i64 ((lineF (pieceL 10 R)).m1.num 999), .int .u8 ((lineF (pieceL 10 R)).m3.num 255), v]) := (C5.out.set 0 (.int .i64 ((lineF (pieceL 10 R)).m1.num 999))).set 1 (.int .u8 ((lineF (pieceL 10 R)).m3.num 255))
        have D2 : Hid (Blk ((w3.setCell ⟨q5, 0, none⟩ (.int .i64 ((lineF (pieceL 10 R)).m1.num 999))).setCell ⟨q5, 1, none⟩ (.int .u8 ((lineF (pieceL 10 R)).m3.num 255))) q2 28 #[.int .i64 0, .int .u8 0, .slice none 0 0]) := (Below.heap_setCell _ _ _ _ n25).trans ((Below.heap_setCell _ _ _ _ n25).trans C2.out)
        have D6 : Hid (Blk ((w3.setCell ⟨q5, 0, none⟩ (.int .i64 ((lineF (pieceL 10 R)).m1.num 999))).setCell ⟨q5, 1, none⟩ (.int .u8 ((lineF (pieceL 10 R)).m3.num 255))) q6 57 #[.string (strU (restL 10 R)), .bool (usedB 10 R false)]) := (Below.heap_setCell _ _ _ _ n56.symm).trans ((Below.heap_setCell _ _ _ _ n56.symm).trans C6.out)
        have D7 : Hid (RulesV ((w3.setCell ⟨q5, 0, none⟩ (.int .i64 ((lineF (pieceL 10 R)).m1.num 999))).setCell ⟨q5, 1, none⟩ (.int .u8 ((lineF (pieceL 10 R)).m3.num 255))) w.heap.size vals rs) := (RV3.out.set C5.out (by decide) _).set (C5.out.set 0 (.int .i64 ((lineF (pieceL 10 R)).m1.num 999))) (by decide) _
        have D8 : Hid (((w3.setCell ⟨q5, 0, none⟩ (.int .i64 ((lineF (pieceL 10 R)).m1.num 999))).setCell ⟨q5, 1, none⟩ (.int .u8 ((lineF (pieceL 10 R)).m3.num 255))).ownsRow (q6 + 1) 43 6 v rs.length vals) := own_set (own_set OW3.out C5.out (by decide) _) (C5.out.set 0 (.int .i64 ((lineF (pieceL 10 R)).m1.num 999))) (by decide) _
        have D9 : Hid (Below w.heap.size w ((w3.setCell ⟨q5, 0, none⟩ (.int .i64 ((lineF (pieceL 10 R)).m1.num 999))).setCell ⟨q5, 1, none⟩ (.int .u8 ((lineF (pieceL 10 R)).m3.num 255)))) := (BB3.out.setCell (by exact l5) _).setCell (by exact l5) _
        have HSTEP : Hid (parseT s.data.toList = if !(lineF (pieceL 10 R)).m4.ok then .form 0 else parseG (R.length + 1) 1 (restL 10 R) ((lineF (pieceL 10 R)).m1.num 999) ((lineF (pieceL 10 R)).m3.num 255) rs) := by
          unfold Hid; rw [HPS.out, parseG, if_pos rfl, hu, Bool.false_or]
        have HLT := used_rest 10 R hu
        rw [hu] at D6
        clear hu
        go_wp2_with fail
        generalize (w3.setCell ⟨q5, 0, none⟩ (.int .i64 ((lineF (pieceL 10 R)).m1.num 999))).setCell ⟨q5, 1, none⟩ (.int .u8 ((lineF (pieceL 10 R)).m3.num 255)) = X4 at *
        refine (complete_any g _ _ W4.out).mono ?_
        rintro e _ ⟨rfl, rfl⟩
        have HOKE : Hid ((lineF (pieceL 10 R)).m4.ok = ((lineF (pieceL 10 R)).m4.used && !(lineF (pieceL 10 R)).m4.wrong)) := rfl
        rw [← HOKE.out]
        cases ho : (lineF (pieceL 10 R)).m4.ok
        · have HF : Hid (parseT s.data.toList = .form 0) := by unfold Hid; rw [HSTEP.out, ho]; rfl
          clear r2a r2b r2c y2a y2b y2c f50 f51 f61 z50 z51
          have r2a := D2.out.cell 0
          have r2b := D2.out.cell 1
          have r2c := D2.out.cell 2
          have y2a := D2.out.free 0
          have y2b := D2.out.free 1
          have y2c := D2.out.free 2
          simp at r2a r2b r2c
          clear ho
          go_wp2
          refine bodyPost_ret (v := .tuple #[.agg #[.int .i64 0, .int .u8 0, .slice none 0 0], .int .i64 0, .int .i64 3]) (by simp [results, Tryz.results7, go_sem, r2a, r2b, r2c]) rfl (ParseEnd.form HF.out ?_)
          exact ((D9.out.setCell (by exact l2) _).setCell (by exact l2) _).setCell (by exact l2) _
        · have HN : Hid (parseT s.data.toList = parseG (R.length + 1) 1 (restL 10 R) ((lineF (pieceL 10 R)).m1.num 999) ((lineF (pieceL 10 R)).m3.num 255) rs) := by unfold Hid; rw [HSTEP.out, ho]; rfl
          clear ho
          go_wp2
          go_roundg ((restL 10 R).length + 1)
          case measure => omega
          case rel =>
            refine ⟨1, restL 10 R, _, _, v, vals, rs, rfl, D6.out, D5.out, D2.out, D8.out, D7.out, D9.out, ⟨ba.1, by omega⟩, Nat.le_refl _, by omega, by omega, ?_⟩
            rw [HN.out]
            exact parseG_fuel _ _ _ _ _ _ _ (by omega) (by omega)
      · have HF : Hid (parseT s.data.toList = .form 0) := by unfold Hid; rw [HPS.out, parseG, if_pos rfl, hu, Bool.true_or, if_pos rfl]
        rw [hu] at f61
        clear hu
        go_wp2
        refine bodyPost_ret (v := .tuple #[.agg #[.int .i64 0, .int .u8 0, .slice none 0 0], .int .i64 0, .int .i64 3]) (by simp [results, Tryz.results7, go_sem, r2a, r2b, r2c]) rfl (ParseEnd.form HF.out ?_)
        exact ((((BB3.out.setCell (by exact l5) _).setCell (by exact l5) _).setCell (by exact l2) _).setCell (by exact l2) _).setCell (by exact l2) _
    · by_cases hR : R = []
      · have HD : Hid (parseT s.data.toList = .done m a rs) := by unfold Hid; rw [HPS.out, parseG, if_neg hn, if_pos hR]
        have hnb : ((n : Int) == 0) = false := beq_eq_false_iff_ne.2 (by omega)
        have hq : (strU R).toList.isEmpty = true := by rw [ByteArray.toList_eq, strU_data, hR]; rfl
        obtain ⟨A, k, rfl⟩ : ∃ A k, v = .slice A rs.length k := by
          rcases HOWN.out.2 with ⟨rfl, h0⟩ | ⟨g, cap, cur, rfl, _⟩
          · exact ⟨_, _, by rw [h0]⟩
          · exact ⟨_, _, rfl⟩
        obtain ⟨hrules, _, hcap⟩ := HRV.out.rules HOWN.out
        have HRU := Lib.hid hrules
        have f50 := H5.out.cell 0
        have f51 := H5.out.cell 1
        have f52 := H5.out.cell 2
        simp at f50 f51 f52
        clear hR hrules
        go_wp2_with fail
        refine (check_any A rs.length k m a rs _ rfl HRU.out (by omega) hcap ha).mono ?_
        rintro e w1 ⟨rfl, hb1⟩
        have C5 := Lib.hid (H5.out.keep hb1 (Blk.lt H5.out))
        have C2 := Lib.hid (H2.out.keep hb1 (Blk.lt H2.out))
        have BB1 := Lib.hid (below_next HBB.out hb1)
        have RU1 := Lib.hid (HRU.out.keep hb1)
        have OW1 := Lib.hid (own_keep HOWN.out hb1)
        have RV1 := Lib.hid (HRV.out.below hb1)
        clear hb1 f50 f51 f52
        have f50 := C5.out.cell 0
        have f51 := C5.out.cell 1
        have f52 := C5.out.cell 2
        simp at f50 f51 f52
        have r2a := C2.out.cell 0
        have r2b := C2.out.cell 1
        have r2c := C2.out.cell 2
        have y2a := C2.out.free 0
        have y2b := C2.out.free 1
        have y2c := C2.out.free 2
        simp at r2a r2b r2c
        by_cases he : chkE m a rs = 0
        · have HE := Lib.hid he
          rw [he]
          clear he
          go_wp2
          refine bodyPost_ret (v := .tuple #[.agg #[.int .i64 m, .int .u8 a, .slice A rs.length k], .int .i64 0, .int .i64 0]) (by simp [results, Tryz.results7, go_sem, r2a, r2b, r2c]) rfl (ParseEnd.good HD.out HE.out ?_ ha hcap ?_)
          · exact ((BB1.out.setCell (by exact l2) _).setCell (by exact l2) _).setCell (by exact l2) _
          · exact (RulesV.rules (((RV1.out.set C2.out (by decide) _).set (C2.out.set 0 (.int .i64 m)) (by decide) _).set ((C2.out.set 0 (.int .i64 m)).set 1 (.int .u8 a)) (by decide) _) (own_set (own_set (own_set OW1.out C2.out (by decide) _) (C2.out.set 0 (.int .i64 m)) (by decide) _) ((C2.out.set 0 (.int .i64 m)).set 1 (.int .u8 a)) (by decide) _)).1
        · have HE := Lib.hid he
          have he2 : (chkE m a rs == 0) = false := beq_eq_false_iff_ne.2 he
          have he3 : (chkE m a rs != 0) = true := by rw [bne_iff_ne]; exact he
          clear he
          go_wp2
          refine bodyPost_ret (v := .tuple #[.agg #[.int .i64 0, .int .u8 0, .slice none 0 0], .int .i64 (chkI m a rs), .int .i64 (chkE m a rs)]) (by simp [results, Tryz.results7, go_sem, r2a, r2b, r2c]) rfl (ParseEnd.bad HD.out HE.out ?_)
          exact ((BB1.out.setCell (by exact l2) _).setCell (by exact l2) _).setCell (by exact l2) _
      · have hnb : ((n : Int) == 0) = false := beq_eq_false_iff_ne.2 (by omega)
        have hq : (strU R).toList.isEmpty = false := by rw [ByteArray.toList_eq, strU_data]; simpa using hR
        have HNZ := Lib.hid (And.intro hn hR)
        clear hn hR
        go_wp2_with fail
        refine (piece_any q6 57 (strU R) false [] 10 _ H6.out hRl).mono ?_
        rintro e w1 ⟨rfl, hb, hg⟩
        rw [strU_data] at hb ⊢
        have B6 := Lib.hid hb
        have G1 := Lib.hid hg
        clear hb hg
        have hL1 : (pieceL 10 R).length < 2 ^ 40 := by have := (restL_len 10 R).2; omega
        have A0 : Hid ((lineF (pieceL 10 R)).at_ (w1.alloc (.cells #[.string (strU (pieceL 10 R)), .bool false, .bool false] 60)) w1.heap.size) := Blk.new _ _ _
        have BB1 := Lib.hid (HBB.out.trans (below_gb G1.out (by have := HBB.out.size; omega) l6))
        have BB2 := Lib.hid (BB1.out.alloc BB1.out.size (.cells #[.string (strU (pieceL 10 R)), .bool false, .bool false] 60))
        have K5 := Lib.hid ((Below.heap_alloc w1 (.cells #[.string (strU (pieceL 10 R)), .bool false, .bool false] 60) q5 (Nat.lt_of_lt_of_le (Blk.lt H5.out) G1.out.size)).trans (H5.out.gb G1.out n56))
        have K2 := Lib.hid ((Below.heap_alloc w1 (.cells #[.string (strU (pieceL 10 R)), .bool false, .bool false] 60) q2 (Nat.lt_of_lt_of_le (Blk.lt H2.out) G1.out.size)).trans (H2.out.gb G1.out n26))
        have K6 := Lib.hid ((Below.heap_alloc w1 (.cells #[.string (strU (pieceL 10 R)), .bool false, .bool false] 60) q6 (Blk.lt B6.out)).trans B6.out)
        have RV1 := Lib.hid ((HRV.out.gb G1.out H6.out (by decide)).below (below_box w1 #[.string (strU (pieceL 10 R)), .bool false, .bool false] 60))
        have OW1 := Lib.hid ((HOWN.out.kept G1.out (own_ne HOWN.out)).alloc (.cells #[.string (strU (pieceL 10 R)), .bool false, .bool false] 60))
        have hg6 : q6 < w1.heap.size := Blk.lt B6.out
        obtain ⟨g, hge⟩ : ∃ g, w1.heap.size = g := ⟨_, rfl⟩
        have ng6 : q6 ≠ g := by omega
        have HQQ := HQ.out
        have ng5 : q5 ≠ g := by omega
        have ng2 : q2 ≠ g := by omega
        have lg : w.heap.size ≤ g := by omega
        have lg6 : q6 + 1 ≤ g := by omega
        clear HQQ
        go_wp2_with fail
        rw [hge] at A0
        have HGE := Lib.hid hge
        clear hge
        generalize w1.alloc (.cells #[.string (strU (pieceL 10 R)), .bool false, .bool false] 60) = X2 at *
        have f52 : X2.drew.cell? ⟨q5, 2, none⟩ = some v := by have := Blk.cell (w := X2) K5.out 2; simpa using this
        refine wp_region_any (by kernel_rfl) ?_
        refine wpAny_take (i := 0) (v := ?_) rfl (by kernel_rfl) (by kernel_rfl) (by kernel_rfl) (fun _ _ _ h => h) (Or.inl ⟨by kernel_rfl, ?_⟩) ?_
        rotate_left
        · (intro W9; go_simp; try with_reducible rfl)
        refine wpAny_ready (rs := [1, 2]) (by kernel_rfl) (by simp) ?_
        refine AllReady.cons rfl (fun K hK => ?_) (AllReady.cons rfl (fun K hK => ?_) AllReady.nil)
        · go_simp
          refine hK _ _ ?_
          clear hK K
          refine wpAny_ready (rs := [2]) (by kernel_rfl) (by simp) ?_
          refine AllReady.cons rfl (fun K hK => ?_) AllReady.nil
          go_simp
          refine (ruleF_any g (lineF (pieceL 10 R)) X2.drew A0.out hL1 (LaidG.of (w := X2.drew) HL.out BB2.out.drew lg)).mono ?_
          rintro e w3 ⟨A, k, rfl, hs, hb3, hg3⟩
          have A3 := Lib.hid hb3
          have SQ3 := Lib.hid (hs.less (lo' := w.heap.size) (by show w.heap.size ≤ X2.heap.size; exact BB2.out.size))
          have C5 : Hid (Blk w3 q5 28 #[.int .i64 m, .int .u8 a, v]) := Blk.gb (w := X2.drew) K5.out hg3 ng5
          have C2 : Hid (Blk w3 q2 28 #[.int .i64 0, .int .u8 0, .slice none 0 0]) := Blk.gb (w := X2.drew) K2.out hg3 ng2
          have C6 : Hid (Blk w3 q6 57 #[.string (strU (restL 10 R)), .bool (usedB 10 R false)]) := Blk.gb (w := X2.drew) K6.out hg3 ng6
          have RV3 : Hid (RulesV w3 w.heap.size vals rs) := RulesV.gb (w := X2.drew) RV1.out hg3 A0.out (by decide)
          have BB3 : Hid (Below w.heap.size w w3) := BB2.out.drew.trans (below_gb (w := X2.drew) hg3 BB2.out.size lg)
          have OW3 : Hid (w3.ownsRow (q6 + 1) 43 6 v rs.length vals) := World.ownsRow.kept (w := X2.drew) OW1.out hg3 (own_ne2 OW1.out A0.out (by decide))
          have q5w3 := Blk.lt C5.out
          have c52 := C5.out.cell 2
          simp at c52
          clear hb3 hg3 hs
          refine hK _ _ ?_
          clear hK K
          refine wpAny_ready (rs := [3]) (by kernel_rfl) (by simp) ?_
          refine AllReady.cons rfl (fun K hK => ?_) AllReady.nil
          go_simp
          refine hK _ _ ?_
          clear hK K
          refine wpAny_ready (rs := [4]) (by kernel_rfl) (by simp) ?_
          refine AllReady.cons rfl (fun K hK => ?_) AllReady.nil
          have OWa : Hid ((w3.alloc (.cells #[.string (lineF (pieceL 10 R)).ru.p, .slice A (lineF (pieceL 10 R)).ru.c.length k, .int .u8 (lineF (pieceL 10 R)).ru.l, .int .u8 (lineF (pieceL 10 R)).ru.r, .int .i64 (lineF (pieceL 10 R)).ru.f, .int .i64 (lineF (pieceL 10 R)).ru.t] 43)).ownsRow (q6 + 1) 43 6 v rs.length vals) := OW3.out.alloc _
          have BBa : Hid (Below w.heap.size w (w3.alloc (.cells #[.string (lineF (pieceL 10 R)).ru.p, .slice A (lineF (pieceL 10 R)).ru.c.length k, .int .u8 (lineF (pieceL 10 R)).ru.l, .int .u8 (lineF (pieceL 10 R)).ru.r, .int .i64 (lineF (pieceL 10 R)).ru.f, .int .i64 (lineF (pieceL 10 R)).ru.t] 43))) := BB3.out.alloc BB3.out.size _
          have hca : ∀ (j' : Nat) (u : Value), (ruleVals A k (lineF (pieceL 10 R)).ru)[j']? = some u → (w3.alloc (.cells #[.string (lineF (pieceL 10 R)).ru.p, .slice A (lineF (pieceL 10 R)).ru.c.length k, .int .u8 (lineF (pieceL 10 R)).ru.l, .int .u8 (lineF (pieceL 10 R)).ru.r, .int .i64 (lineF (pieceL 10 R)).ru.f, .int .i64 (lineF (pieceL 10 R)).ru.t] 43)).cell? ((⟨w3.heap.size, 0, none⟩ : Addr).add j') = some u := cells_lit_new w3 (ruleVals A k (lineF (pieceL 10 R)).ru) _
          refine step_append_own rfl _ _ 26 rfl (q6 + 1) 43 i0 (.agg #[.string ⟨#[]⟩, .slice none 0 0, .int .u8 0, .int .u8 0, .int .i64 0, .int .i64 0]) 6 64 Tryz.underlying26 hi hz0 hz1 hz2 rfl (by decide) v rs.length vals rfl OWa.out ⟨w3.heap.size, 0, none⟩ 1 1 (ruleVals A k (lineF (pieceL 10 R)).ru) rfl rfl hca ?_ ?_ ?_ ?_ ?_
          · intro u hu; simp only [ruleVals, List.mem_cons, List.not_mem_nil, or_false] at hu; rcases hu with rfl | rfl | rfl | rfl | rfl | rfl <;> rfl
          · unfold maxLen; omega
          · omega
          · have := Blk.lt C6.out; simp; omega
          intro v' w5 hown' hgrow
          have RV5 : Hid (RulesV w5 w.heap.size (vals ++ ruleVals A k (lineF (pieceL 10 R)).ru) (rs ++ [(lineF (pieceL 10 R)).ru])) := ((RV3.out.below (below_box w3 _ _)).grown OWa.out hgrow).snoc ((SQ3.out.below (below_box w3 _ _)).move fun b _ hB => (hgrow.block b (Blk.lt hB) (own_ne3 OWa.out hB (by decide)).symm)) (ru_fits _ hL1)
          have E5 : Hid (Blk w5 q5 28 #[.int .i64 m, .int .u8 a, v]) := Blk.row OWa.out hgrow C5.out.box (by decide)
          have E2 : Hid (Blk w5 q2 28 #[.int .i64 0, .int .u8 0, .slice none 0 0]) := Blk.row OWa.out hgrow C2.out.box (by decide)
          have E6 : Hid (Blk w5 q6 57 #[.string (strU (restL 10 R)), .bool (usedB 10 R false)]) := Blk.row OWa.out hgrow C6.out.box (by decide)
          have E1 : Hid ((lineF (pieceL 10 R)).r6.at_ w5 g) := Blk.row OWa.out hgrow (Blk.box A3.out) (by decide)
          have OW5 := Lib.hid hown'
          have BB5 : Hid (Below w.heap.size w w5) := BBa.out.grown hgrow (by have := BB3.out.size; simp; omega) (fun j hj => by
            rcases OWa.out.2 with ⟨rfl, _⟩ | ⟨g9, cap9, cur9, rfl, hg9, _⟩
            · cases hj
            · have e2 : g9 = j := by simpa [Value.ownBlock] using hj
              omega)
          clear hown' hgrow
          refine hK _ _ ?_
          clear hK K
          refine wpAny_ready (rs := [5]) (by kernel_rfl) (by simp) ?_
          refine AllReady.cons rfl (fun K hK => ?_) AllReady.nil
          go_simp
          refine hK _ _ ?_
          clear hK K
          obtain ⟨A', k', rfl⟩ : ∃ A k, v' = .slice A (rs.length + 1) k := by
            rcases OW5.out.2 with ⟨rfl, h0⟩ | ⟨g, cap, cur, rfl, _⟩
            · exact absurd h0 (by simp)
            · exact ⟨_, _, rfl⟩
          have e52 := E5.out.cell 2
          have y52 := E5.out.free 2
          simp at e52
          refine wpAny_ready (rs := [6]) (by kernel_rfl) (by simp) ?_
          refine AllReady.cons rfl (fun K hK => ?_) AllReady.nil
          go_simp
          refine hK _ _ ?_
          clear hK K
          have BB6 : Hid (Below w.heap.size w (w5.setCell ⟨q5, 2, none⟩ (.slice A' (rs.length + 1) k'))) := BB5.out.setCell (by exact l5) _
          have F1 : Hid ((lineF (pieceL 10 R)).r6.at_ (w5.setCell ⟨q5, 2, none⟩ (.slice A' (rs.length + 1) k')) g) := at_set _ E1.out ng5.symm
          have F5 : Hid (Blk (w5.setCell ⟨q5, 2, none⟩ (.slice A' (rs.length + 1) k')) q5 28 #[.int .i64 m, .int .u8 a, .slice A' (rs.length + 1) k']) := E5.out.set 2 _
          have F2 : Hid (Blk (w5.setCell ⟨q5, 2, none⟩ (.slice A' (rs.length + 1) k')) q2 28 #[.int .i64 0, .int .u8 0, .slice none 0 0]) := (Below.heap_setCell _ _ _ _ n25).trans E2.out
          have F6 : Hid (Blk (w5.setCell ⟨q5, 2, none⟩ (.slice A' (rs.length + 1) k')) q6 57 #[.string (strU (restL 10 R)), .bool (usedB 10 R false)]) := (Below.heap_setCell _ _ _ _ n56.symm).trans E6.out
          have RV6 : Hid (RulesV (w5.setCell ⟨q5, 2, none⟩ (.slice A' (rs.length + 1) k')) w.heap.size (vals ++ ruleVals A k (lineF (pieceL 10 R)).ru) (rs ++ [(lineF (pieceL 10 R)).ru])) := RV5.out.set E5.out (by decide) _
          have OW6 : Hid ((w5.setCell ⟨q5, 2, none⟩ (.slice A' (rs.length + 1) k')).ownsRow (q6 + 1) 43 6 (.slice A' (rs.length + 1) k') (rs ++ [(lineF (pieceL 10 R)).ru]).length (vals ++ ruleVals A k (lineF (pieceL 10 R)).ru)) := by
            rw [List.length_append]
            exact own_set OW5.out E5.out (by decide) _
          clear e52 y52
          refine wpAny_done (by kernel_rfl) ?_ _
          try dsimp [Act.put]
          try simp only [List.setIfInBounds_toArray, List.set_cons_zero, List.set_cons_succ]
          generalize w5.setCell ⟨q5, 2, none⟩ (.slice A' (rs.length + 1) k') = X6 at *
          have r2a := F2.out.cell 0
          have r2b := F2.out.cell 1
          have r2c := F2.out.cell 2
          have y2a := F2.out.free 0
          have y2b := F2.out.free 1
          have y2c := F2.out.free 2
          simp at r2a r2b r2c
          have f61 := F6.out.cell 1
          simp at f61
          cases hu : usedB 10 R false
          · rw [hu] at f61
            have HSTEP : Hid (parseT s.data.toList = if !(lineF (pieceL 10 R)).r6.ok then .form n else parseG (R.length + 1) (n + 1) (restL 10 R) m a (rs ++ [(lineF (pieceL 10 R)).ru])) := by
              unfold Hid; rw [HPS.out, parseG, if_neg HNZ.out.1, if_neg HNZ.out.2, hu, Bool.false_or]
            have HLT := used_rest 10 R hu
            rw [hu] at F6
            clear hu
            go_wp2_with fail
            refine (complete_any g _ _ F1.out).mono ?_
            rintro e _ ⟨rfl, rfl⟩
            have HOKE : Hid ((lineF (pieceL 10 R)).r6.ok = ((lineF (pieceL 10 R)).r6.used && !(lineF (pieceL 10 R)).r6.wrong)) := rfl
            rw [← HOKE.out]
            cases ho : (lineF (pieceL 10 R)).r6.ok
            · have HF : Hid (parseT s.data.toList = .form n) := by unfold Hid; rw [HSTEP.out, ho]; rfl
              clear ho
              go_wp2
              refine bodyPost_ret (v := .tuple #[.agg #[.int .i64 0, .int .u8 0, .slice none 0 0], .int .i64 n, .int .i64 3]) (by simp [results, Tryz.results7, go_sem, r2a, r2b, r2c]) rfl (ParseEnd.form HF.out ?_)
              exact ((BB6.out.setCell (by exact l2) _).setCell (by exact l2) _).setCell (by exact l2) _
            · have HN : Hid (parseT s.data.toList = parseG (R.length + 1) (n + 1) (restL 10 R) m a (rs ++ [(lineF (pieceL 10 R)).ru])) := by unfold Hid; rw [HSTEP.out, ho]; rfl
              clear ho
              go_wp2
              go_roundg ((restL 10 R).length + 1)
              case measure => omega
              case rel =>
                refine ⟨n + 1, restL 10 R, _, _, _, _, _, ?_, F6.out, F5.out, F2.out, OW6.out, RV6.out, BB6.out, ha, Nat.le_refl _, by omega, by simp; omega, ?_⟩
                · simp
                · rw [HN.out]
                  exact parseG_fuel _ _ _ _ _ _ _ (by omega) (by omega)
          · have HF : Hid (parseT s.data.toList = .form n) := by unfold Hid; rw [HPS.out, parseG, if_neg HNZ.out.1, if_neg HNZ.out.2, hu, Bool.true_or, if_pos rfl]
            rw [hu] at f61
            clear hu
            go_wp2
            refine bodyPost_ret (v := .tuple #[.agg #[.int .i64 0, .int .u8 0, .slice none 0 0], .int .i64 n, .int .i64 3]) (by simp [results, Tryz.results7, go_sem, r2a, r2b, r2c]) rfl (ParseEnd.form HF.out ?_)
            exact ((BB6.out.setCell (by exact l2) _).setCell (by exact l2) _).setCell (by exact l2) _
        · go_simp
          refine (ruleF_any g (lineF (pieceL 10 R)) X2.drew A0.out hL1 (LaidG.of (w := X2.drew) HL.out BB2.out.drew lg)).mono ?_
          rintro e w3 ⟨A, k, rfl, hs, hb3, hg3⟩
          have A3 := Lib.hid hb3
          have SQ3 := Lib.hid (hs.less (lo' := w.heap.size) (by show w.heap.size ≤ X2.heap.size; exact BB2.out.size))
          have C5 : Hid (Blk w3 q5 28 #[.int .i64 m, .int .u8 a, v]) := Blk.gb (w := X2.drew) K5.out hg3 ng5
          have C2 : Hid (Blk w3 q2 28 #[.int .i64 0, .int .u8 0, .slice none 0 0]) := Blk.gb (w := X2.drew) K2.out hg3 ng2
          have C6 : Hid (Blk w3 q6 57 #[.string (strU (restL 10 R)), .bool (usedB 10 R false)]) := Blk.gb (w := X2.drew) K6.out hg3 ng6
          have RV3 : Hid (RulesV w3 w.heap.size vals rs) := RulesV.gb (w := X2.drew) RV1.out hg3 A0.out (by decide)
          have BB3 : Hid (Below w.heap.size w w3) := BB2.out.drew.trans (below_gb (w := X2.drew) hg3 BB2.out.size lg)
          have OW3 : Hid (w3.ownsRow (q6 + 1) 43 6 v rs.length vals) := World.ownsRow.kept (w := X2.drew) OW1.out hg3 (own_ne2 OW1.out A0.out (by decide))
          have q5w3 := Blk.lt C5.out
          have c52 := C5.out.cell 2
          simp at c52
          clear hb3 hg3 hs
          refine hK _ _ ?_
          clear hK K
          refine wpAny_ready (rs := [1, 3]) (by kernel_rfl) (by simp) ?_
          refine AllReady.cons rfl (fun K hK => ?_) (AllReady.cons rfl (fun K hK => ?_) AllReady.nil)
          · go_simp
            refine hK _ _ ?_
            clear hK K
            refine wpAny_ready (rs := [3]) (by kernel_rfl) (by simp) ?_
            refine AllReady.cons rfl (fun K hK => ?_) AllReady.nil
            go_simp
            refine hK _ _ ?_
            clear hK K
            refine wpAny_ready (rs := [4]) (by kernel_rfl) (by simp) ?_
            refine AllReady.cons rfl (fun K hK => ?_) AllReady.nil
            have OWa : Hid ((w3.alloc (.cells #[.string (lineF (pieceL 10 R)).ru.p, .slice A (lineF (pieceL 10 R)).ru.c.length k, .int .u8 (lineF (pieceL 10 R)).ru.l, .int .u8 (lineF (pieceL 10 R)).ru.r, .int .i64 (lineF (pieceL 10 R)).ru.f, .int .i64 (lineF (pieceL 10 R)).ru.t] 43)).ownsRow (q6 + 1) 43 6 v rs.length vals) := OW3.out.alloc _
            have BBa : Hid (Below w.heap.size w (w3.alloc (.cells #[.string (lineF (pieceL 10 R)).ru.p, .slice A (lineF (pieceL 10 R)).ru.c.length k, .int .u8 (lineF (pieceL 10 R)).ru.l, .int .u8 (lineF (pieceL 10 R)).ru.r, .int .i64 (lineF (pieceL 10 R)).ru.f, .int .i64 (lineF (pieceL 10 R)).ru.t] 43))) := BB3.out.alloc BB3.out.size _
            have hca : ∀ (j' : Nat) (u : Value), (ruleVals A k (lineF (pieceL 10 R)).ru)[j']? = some u → (w3.alloc (.cells #[.string (lineF (pieceL 10 R)).ru.p, .slice A (lineF (pieceL 10 R)).ru.c.length k, .int .u8 (lineF (pieceL 10 R)).ru.l, .int .u8 (lineF (pieceL 10 R)).ru.r, .int .i64 (lineF (pieceL 10 R)).ru.f, .int .i64 (lineF (pieceL 10 R)).ru.t] 43)).cell? ((⟨w3.heap.size, 0, none⟩ : Addr).add j') = some u := cells_lit_new w3 (ruleVals A k (lineF (pieceL 10 R)).ru) _
            refine step_append_own rfl _ _ 26 rfl (q6 + 1) 43 i0 (.agg #[.string ⟨#[]⟩, .slice none 0 0, .int .u8 0, .int .u8 0, .int .i64 0, .int .i64 0]) 6 64 Tryz.underlying26 hi hz0 hz1 hz2 rfl (by decide) v rs.length vals rfl OWa.out ⟨w3.heap.size, 0, none⟩ 1 1 (ruleVals A k (lineF (pieceL 10 R)).ru) rfl rfl hca ?_ ?_ ?_ ?_ ?_
            · intro u hu; simp only [ruleVals, List.mem_cons, List.not_mem_nil, or_false] at hu; rcases hu with rfl | rfl | rfl | rfl | rfl | rfl <;> rfl
            · unfold maxLen; omega
            · omega
            · have := Blk.lt C6.out; simp; omega
            intro v' w5 hown' hgrow
            have RV5 : Hid (RulesV w5 w.heap.size (vals ++ ruleVals A k (lineF (pieceL 10 R)).ru) (rs ++ [(lineF (pieceL 10 R)).ru])) := ((RV3.out.below (below_box w3 _ _)).grown OWa.out hgrow).snoc ((SQ3.out.below (below_box w3 _ _)).move fun b _ hB => (hgrow.block b (Blk.lt hB) (own_ne3 OWa.out hB (by decide)).symm)) (ru_fits _ hL1)
            have E5 : Hid (Blk w5 q5 28 #[.int .i64 m, .int .u8 a, v]) := Blk.row OWa.out hgrow C5.out.box (by decide)
            have E2 : Hid (Blk w5 q2 28 #[.int .i64 0, .int .u8 0, .slice none 0 0]) := Blk.row OWa.out hgrow C2.out.box (by decide)
            have E6 : Hid (Blk w5 q6 57 #[.string (strU (restL 10 R)), .bool (usedB 10 R false)]) := Blk.row OWa.out hgrow C6.out.box (by decide)
            have E1 : Hid ((lineF (pieceL 10 R)).r6.at_ w5 g) := Blk.row OWa.out hgrow (Blk.box A3.out) (by decide)
            have OW5 := Lib.hid hown'
            have BB5 : Hid (Below w.heap.size w w5) := BBa.out.grown hgrow (by have := BB3.out.size; simp; omega) (fun j hj => by
              rcases OWa.out.2 with ⟨rfl, _⟩ | ⟨g9, cap9, cur9, rfl, hg9, _⟩
              · cases hj
              · have e2 : g9 = j := by simpa [Value.ownBlock] using hj
                omega)
            clear hown' hgrow
            refine hK _ _ ?_
            clear hK K
            refine wpAny_ready (rs := [5]) (by kernel_rfl) (by simp) ?_
            refine AllReady.cons rfl (fun K hK => ?_) AllReady.nil
            go_simp
            refine hK _ _ ?_
            clear hK K
            obtain ⟨A', k', rfl⟩ : ∃ A k, v' = .slice A (rs.length + 1) k := by
              rcases OW5.out.2 with ⟨rfl, h0⟩ | ⟨g, cap, cur, rfl, _⟩
              · exact absurd h0 (by simp)
              · exact ⟨_, _, rfl⟩
            have e52 := E5.out.cell 2
            have y52 := E5.out.free 2
            simp at e52
            refine wpAny_ready (rs := [6]) (by kernel_rfl) (by simp) ?_
            refine AllReady.cons rfl (fun K hK => ?_) AllReady.nil
            go_simp
            refine hK _ _ ?_
            clear hK K
            have BB6 : Hid (Below w.heap.size w (w5.setCell ⟨q5, 2, none⟩ (.slice A' (rs.length + 1) k'))) := BB5.out.setCell (by exact l5) _
            have F1 : Hid ((lineF (pieceL 10 R)).r6.at_ (w5.setCell ⟨q5, 2, none⟩ (.slice A' (rs.length + 1) k')) g) := at_set _ E1.out ng5.symm
            have F5 : Hid (Blk (w5.setCell ⟨q5, 2, none⟩ (.slice A' (rs.length + 1) k')) q5 28 #[.int .i64 m, .int .u8 a, .slice A' (rs.length + 1) k']) := E5.out.set 2 _
            have F2 : Hid (Blk (w5.setCell ⟨q5, 2, none⟩ (.slice A' (rs.length + 1) k')) q2 28 #[.int .i64 0, .int .u8 0, .slice none 0 0]) := (Below.heap_setCell _ _ _ _ n25).trans E2.out
            have F6 : Hid (Blk (w5.setCell ⟨q5, 2, none⟩ (.slice A' (rs.length + 1) k')) q6 57 #[.string (strU (restL 10 R)), .bool (usedB 10 R false)]) := (Below.heap_setCell _ _ _ _ n56.symm).trans E6.out
            have RV6 : Hid (RulesV (w5.setCell ⟨q5, 2, none⟩ (.slice A' (rs.length + 1) k')) w.heap.size (vals ++ ruleVals A k (lineF (pieceL 10 R)).ru) (rs ++ [(lineF (pieceL 10 R)).ru])) := RV5.out.set E5.out (by decide) _
            have OW6 : Hid ((w5.setCell ⟨q5, 2, none⟩ (.slice A' (rs.length + 1) k')).ownsRow (q6 + 1) 43 6 (.slice A' (rs.length + 1) k') (rs ++ [(lineF (pieceL 10 R)).ru]).length (vals ++ ruleVals A k (lineF (pieceL 10 R)).ru)) := by
              rw [List.length_append]
              exact own_set OW5.out E5.out (by decide) _
            clear e52 y52
            refine wpAny_done (by kernel_rfl) ?_ _
            try dsimp [Act.put]
            try simp only [List.setIfInBounds_toArray, List.set_cons_zero, List.set_cons_succ]
            generalize w5.setCell ⟨q5, 2, none⟩ (.slice A' (rs.length + 1) k') = X6 at *
            have r2a := F2.out.cell 0
            have r2b := F2.out.cell 1
            have r2c := F2.out.cell 2
            have y2a := F2.out.free 0
            have y2b := F2.out.free 1
            have y2c := F2.out.free 2
            simp at r2a r2b r2c
            have f61 := F6.out.cell 1
            simp at f61
            cases hu : usedB 10 R false
            · rw [hu] at f61
              have HSTEP : Hid (parseT s.data.toList = if !(lineF (pieceL 10 R)).r6.ok then .form n else parseG (R.length + 1) (n + 1) (restL 10 R) m a (rs ++ [(lineF (pieceL 10 R)).ru])) := by
                unfold Hid; rw [HPS.out, parseG, if_neg HNZ.out.1, if_neg HNZ.out.2, hu, Bool.false_or]
              have HLT := used_rest 10 R hu
              rw [hu] at F6
              clear hu
              go_wp2_with fail
              refine (complete_any g _ _ F1.out).mono ?_
              rintro e _ ⟨rfl, rfl⟩
              have HOKE : Hid ((lineF (pieceL 10 R)).r6.ok = ((lineF (pieceL 10 R)).r6.used && !(lineF (pieceL 10 R)).r6.wrong)) := rfl
              rw [← HOKE.out]
              cases ho : (lineF (pieceL 10 R)).r6.ok
              · have HF : Hid (parseT s.data.toList = .form n) := by unfold Hid; rw [HSTEP.out, ho]; rfl
                clear ho
                go_wp2
                refine bodyPost_ret (v := .tuple #[.agg #[.int .i64 0, .int .u8 0, .slice none 0 0], .int .i64 n, .int .i64 3]) (by simp [results, Tryz.results7, go_sem, r2a, r2b, r2c]) rfl (ParseEnd.form HF.out ?_)
                exact ((BB6.out.setCell (by exact l2) _).setCell (by exact l2) _).setCell (by exact l2) _
              · have HN : Hid (parseT s.data.toList = parseG (R.length + 1) (n + 1) (restL 10 R) m a (rs ++ [(lineF (pieceL 10 R)).ru])) := by unfold Hid; rw [HSTEP.out, ho]; rfl
                clear ho
                go_wp2
                go_roundg ((restL 10 R).length + 1)
                case measure => omega
                case rel =>
                  refine ⟨n + 1, restL 10 R, _, _, _, _, _, ?_, F6.out, F5.out, F2.out, OW6.out, RV6.out, BB6.out, ha, Nat.le_refl _, by omega, by simp; omega, ?_⟩
                  · simp
                  · rw [HN.out]
                    exact parseG_fuel _ _ _ _ _ _ _ (by omega) (by omega)
            · have HF : Hid (parseT s.data.toList = .form n) := by unfold Hid; rw [HPS.out, parseG, if_neg HNZ.out.1, if_neg HNZ.out.2, hu, Bool.true_or, if_pos rfl]
              rw [hu] at f61
              clear hu
              go_wp2
              refine bodyPost_ret (v := .tuple #[.agg #[.int .i64 0, .int .u8 0, .slice none 0 0], .int .i64 n, .int .i64 3]) (by simp [results, Tryz.results7, go_sem, r2a, r2b, r2c]) rfl (ParseEnd.form HF.out ?_)
              exact ((BB6.out.setCell (by exact l2) _).setCell (by exact l2) _).setCell (by exact l2) _
          · go_simp
            refine hK _ _ ?_
            clear hK K
            have d52 := C5.out.box (e := 43) (vs := (#[.string (lineF (pieceL 10 R)).ru.p, .slice A (lineF (pieceL 10 R)).ru.c.length k, .int .u8 (lineF (pieceL 10 R)).ru.l, .int .u8 (lineF (pieceL 10 R)).ru.r, .int .i64 (lineF (pieceL 10 R)).ru.f, .int .i64 (lineF (pieceL 10 R)).ru.t])) |>.cell 2
            simp at d52
            refine wpAny_ready (rs := [1]) (by kernel_rfl) (by simp) ?_
            refine AllReady.cons rfl (fun K hK => ?_) AllReady.nil
            go_simp
            refine hK _ _ ?_
            clear hK K
            refine wpAny_ready (rs := [4]) (by kernel_rfl) (by simp) ?_
            refine AllReady.cons rfl (fun K hK => ?_) AllReady.nil
            have OWa : Hid ((w3.alloc (.cells #[.string (lineF (pieceL 10 R)).ru.p, .slice A (lineF (pieceL 10 R)).ru.c.length k, .int .u8 (lineF (pieceL 10 R)).ru.l, .int .u8 (lineF (pieceL 10 R)).ru.r, .int .i64 (lineF (pieceL 10 R)).ru.f, .int .i64 (lineF (pieceL 10 R)).ru.t] 43)).ownsRow (q6 + 1) 43 6 v rs.length vals) := OW3.out.alloc _
            have BBa : Hid (Below w.heap.size w (w3.alloc (.cells #[.string (lineF (pieceL 10 R)).ru.p, .slice A (lineF (pieceL 10 R)).ru.c.length k, .int .u8 (lineF (pieceL 10 R)).ru.l, .int .u8 (lineF (pieceL 10 R)).ru.r, .int .i64 (lineF (pieceL 10 R)).ru.f, .int .i64 (lineF (pieceL 10 R)).ru.t] 43))) := BB3.out.alloc BB3.out.size _
            have hca : ∀ (j' : Nat) (u : Value), (ruleVals A k (lineF (pieceL 10 R)).ru)[j']? = some u → (w3.alloc (.cells #[.string (lineF (pieceL 10 R)).ru.p, .slice A (lineF (pieceL 10 R)).ru.c.length k, .int .u8 (lineF (pieceL 10 R)).ru.l, .int .u8 (lineF (pieceL 10 R)).ru.r, .int .i64 (lineF (pieceL 10 R)).ru.f, .int .i64 (lineF (pieceL 10 R)).ru.t] 43)).cell? ((⟨w3.heap.size, 0, none⟩ : Addr).add j') = some u := cells_lit_new w3 (ruleVals A k (lineF (pieceL 10 R)).ru) _
            refine step_append_own rfl _ _ 26 rfl (q6 + 1) 43 i0 (.agg #[.string ⟨#[]⟩, .slice none 0 0, .int .u8 0, .int .u8 0, .int .i64 0, .int .i64 0]) 6 64 Tryz.underlying26 hi hz0 hz1 hz2 rfl (by decide) v rs.length vals rfl OWa.out ⟨w3.heap.size, 0, none⟩ 1 1 (ruleVals A k (lineF (pieceL 10 R)).ru) rfl rfl hca ?_ ?_ ?_ ?_ ?_
            · intro u hu; simp only [ruleVals, List.mem_cons, List.not_mem_nil, or_false] at hu; rcases hu with rfl | rfl | rfl | rfl | rfl | rfl <;> rfl
            · unfold maxLen; omega
            · omega
            · have := Blk.lt C6.out; simp; omega
            intro v' w5 hown' hgrow
            have RV5 : Hid (RulesV w5 w.heap.size (vals ++ ruleVals A k (lineF (pieceL 10 R)).ru) (rs ++ [(lineF (pieceL 10 R)).ru])) := ((RV3.out.below (below_box w3 _ _)).grown OWa.out hgrow).snoc ((SQ3.out.below (below_box w3 _ _)).move fun b _ hB => (hgrow.block b (Blk.lt hB) (own_ne3 OWa.out hB (by decide)).symm)) (ru_fits _ hL1)
            have E5 : Hid (Blk w5 q5 28 #[.int .i64 m, .int .u8 a, v]) := Blk.row OWa.out hgrow C5.out.box (by decide)
            have E2 : Hid (Blk w5 q2 28 #[.int .i64 0, .int .u8 0, .slice none 0 0]) := Blk.row OWa.out hgrow C2.out.box (by decide)
            have E6 : Hid (Blk w5 q6 57 #[.string (strU (restL 10 R)), .bool (usedB 10 R false)]) := Blk.row OWa.out hgrow C6.out.box (by decide)
            have E1 : Hid ((lineF (pieceL 10 R)).r6.at_ w5 g) := Blk.row OWa.out hgrow (Blk.box A3.out) (by decide)
            have OW5 := Lib.hid hown'
            have BB5 : Hid (Below w.heap.size w w5) := BBa.out.grown hgrow (by have := BB3.out.size; simp; omega) (fun j hj => by
              rcases OWa.out.2 with ⟨rfl, _⟩ | ⟨g9, cap9, cur9, rfl, hg9, _⟩
              · cases hj
              · have e2 : g9 = j := by simpa [Value.ownBlock] using hj
                omega)
            clear hown' hgrow
            refine hK _ _ ?_
            clear hK K
            refine wpAny_ready (rs := [5]) (by kernel_rfl) (by simp) ?_
            refine AllReady.cons rfl (fun K hK => ?_) AllReady.nil
            go_simp
            refine hK _ _ ?_
            clear hK K
            obtain ⟨A', k', rfl⟩ : ∃ A k, v' = .slice A (rs.length + 1) k := by
              rcases OW5.out.2 with ⟨rfl, h0⟩ | ⟨g, cap, cur, rfl, _⟩
              · exact absurd h0 (by simp)
              · exact ⟨_, _, rfl⟩
            have e52 := E5.out.cell 2
            have y52 := E5.out.free 2
            simp at e52
            refine wpAny_ready (rs := [6]) (by kernel_rfl) (by simp) ?_
            refine AllReady.cons rfl (fun K hK => ?_) AllReady.nil
            go_simp
            refine hK _ _ ?_
            clear hK K
            have BB6 : Hid (Below w.heap.size w (w5.setCell ⟨q5, 2, none⟩ (.slice A' (rs.length + 1) k'))) := BB5.out.setCell (by exact l5) _
            have F1 : Hid ((lineF (pieceL 10 R)).r6.at_ (w5.setCell ⟨q5, 2, none⟩ (.slice A' (rs.length + 1) k')) g) := at_set _ E1.out ng5.symm
            have F5 : Hid (Blk (w5.setCell ⟨q5, 2, none⟩ (.slice A' (rs.length + 1) k')) q5 28 #[.int .i64 m, .int .u8 a, .slice A' (rs.length + 1) k']) := E5.out.set 2 _
            have F2 : Hid (Blk (w5.setCell ⟨q5, 2, none⟩ (.slice A' (rs.length + 1) k')) q2 28 #[.int .i64 0, .int .u8 0, .slice none 0 0]) := (Below.heap_setCell _ _ _ _ n25).trans E2.out
            have F6 : Hid (Blk (w5.setCell ⟨q5, 2, none⟩ (.slice A' (rs.length + 1) k')) q6 57 #[.string (strU (restL 10 R)), .bool (usedB 10 R false)]) := (Below.heap_setCell _ _ _ _ n56.symm).trans E6.out
            have RV6 : Hid (RulesV (w5.setCell ⟨q5, 2, none⟩ (.slice A' (rs.length + 1) k')) w.heap.size (vals ++ ruleVals A k (lineF (pieceL 10 R)).ru) (rs ++ [(lineF (pieceL 10 R)).ru])) := RV5.out.set E5.out (by decide) _
            have OW6 : Hid ((w5.setCell ⟨q5, 2, none⟩ (.slice A' (rs.length + 1) k')).ownsRow (q6 + 1) 43 6 (.slice A' (rs.length + 1) k') (rs ++ [(lineF (pieceL 10 R)).ru]).length (vals ++ ruleVals A k (lineF (pieceL 10 R)).ru)) := by
              rw [List.length_append]
              exact own_set OW5.out E5.out (by decide) _
            clear e52 y52
            refine wpAny_done (by kernel_rfl) ?_ _
            try dsimp [Act.put]
            try simp only [List.setIfInBounds_toArray, List.set_cons_zero, List.set_cons_succ]
            generalize w5.setCell ⟨q5, 2, none⟩ (.slice A' (rs.length + 1) k') = X6 at *
            have r2a := F2.out.cell 0
            have r2b := F2.out.cell 1
            have r2c := F2.out.cell 2
            have y2a := F2.out.free 0
            have y2b := F2.out.free 1
            have y2c := F2.out.free 2
            simp at r2a r2b r2c
            have f61 := F6.out.cell 1
            simp at f61
            cases hu : usedB 10 R false
            · rw [hu] at f61
              have HSTEP : Hid (parseT s.data.toList = if !(lineF (pieceL 10 R)).r6.ok then .form n else parseG (R.length + 1) (n + 1) (restL 10 R) m a (rs ++ [(lineF (pieceL 10 R)).ru])) := by
                unfold Hid; rw [HPS.out, parseG, if_neg HNZ.out.1, if_neg HNZ.out.2, hu, Bool.false_or]
              have HLT := used_rest 10 R hu
              rw [hu] at F6
              clear hu
              go_wp2_with fail
              refine (complete_any g _ _ F1.out).mono ?_
              rintro e _ ⟨rfl, rfl⟩
              have HOKE : Hid ((lineF (pieceL 10 R)).r6.ok = ((lineF (pieceL 10 R)).r6.used && !(lineF (pieceL 10 R)).r6.wrong)) := rfl
              rw [← HOKE.out]
              cases ho : (lineF (pieceL 10 R)).r6.ok
              · have HF : Hid (parseT s.data.toList = .form n) := by unfold Hid; rw [HSTEP.out, ho]; rfl
                clear ho
                go_wp2
                refine bodyPost_ret (v := .tuple #[.agg #[.int .i64 0, .int .u8 0, .slice none 0 0], .int .i64 n, .int .i64 3]) (by simp [results, Tryz.results7, go_sem, r2a, r2b, r2c]) rfl (ParseEnd.form HF.out ?_)
                exact ((BB6.out.setCell (by exact l2) _).setCell (by exact l2) _).setCell (by exact l2) _
              · have HN : Hid (parseT s.data.toList = parseG (R.length + 1) (n + 1) (restL 10 R) m a (rs ++ [(lineF (pieceL 10 R)).ru])) := by unfold Hid; rw [HSTEP.out, ho]; rfl
                clear ho
                go_wp2
                go_roundg ((restL 10 R).length + 1)
                case measure => omega
                case rel =>
                  refine ⟨n + 1, restL 10 R, _, _, _, _, _, ?_, F6.out, F5.out, F2.out, OW6.out, RV6.out, BB6.out, ha, Nat.le_refl _, by omega, by simp; omega, ?_⟩
                  · simp
                  · rw [HN.out]
                    exact parseG_fuel _ _ _ _ _ _ _ (by omega) (by omega)
            · have HF : Hid (parseT s.data.toList = .form n) := by unfold Hid; rw [HPS.out, parseG, if_neg HNZ.out.1, if_neg HNZ.out.2, hu, Bool.true_or, if_pos rfl]
              rw [hu] at f61
              clear hu
              go_wp2
              refine bodyPost_ret (v := .tuple #[.agg #[.int .i64 0, .int .u8 0, .slice none 0 0], .int .i64 n, .int .i64 3]) (by simp [results, Tryz.results7, go_sem, r2a, r2b, r2c]) rfl (ParseEnd.form HF.out ?_)
              exact ((BB6.out.setCell (by exact l2) _).setCell (by exact l2) _).setCell (by exact l2) _
end Go.Proofs.YtiedaongfjcbhabGreatDoor
