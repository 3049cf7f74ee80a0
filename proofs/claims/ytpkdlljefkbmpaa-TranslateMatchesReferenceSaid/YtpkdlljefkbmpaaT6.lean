/- Merged by program: Tr14 Tr15 Tr16 Tr17 -/
import Derived.Test.YtpkdlljefkbmpaaT5
import Derived.Test.YtpkdlljefkbmpaaQ10
import Derived.Test.YtpkdlljefkbmpaaQ11
import Derived.Test.YtpkdlljefkbmpaaQ19
import Derived.Test.YtpkdlljefkbmpaaQ3
import Derived.Test.YtpkdlljefkbmpaaQ21

/-! Package translate: Write, Cost. -/
namespace Go.Proofs.Ytpkdlljefkbmpaa
open Go.RowKit Go.Maps
def WrR (a : Int) (rs : List Rule) (l : List Nat) (cs ks : List Int) (pl : Nat) (er : Int) : Prop :=
 (isTextB l = false ∧ cs = [] ∧ ks = [] ∧ pl = textAt l ∧ er = 60) ∨
 (isTextB l = true ∧ ((BestE (edgP rs l) (cstR rs) (finP a l) (0, 0) ks ∧ cs = cellsK rs ks ∧ pl = l.length ∧ er = 0) ∨
  ((∀ ls, ¬ GdE (edgP rs l) (finP a l) (0, 0) ls) ∧ cs = [] ∧ ks = [] ∧ TopP rs l pl ∧ er = 61)))
theorem top_one {rs : List Rule} {l : List Nat} {g g' : Nat} (h : TopP rs l g) (h' : TopP rs l g') : g = g' := by
 obtain ⟨mo, h1⟩ := h.1
 obtain ⟨mo', h2⟩ := h'.1
 exact Nat.le_antisymm (h'.2 _ h1) (h.2 _ h2)
theorem wrR_one {a : Int} {rs : List Rule} {l : List Nat} {cs ks cs' ks' : List Int} {pl pl' : Nat} {er er' : Int} (h : WrR a rs l cs ks pl er) (h' : WrR a rs l cs' ks' pl' er') : cs = cs' ∧ ks = ks' ∧ pl = pl' ∧ er = er' := by
 rcases h with ⟨t, rfl, rfl, rfl, rfl⟩ | ⟨t, h⟩ <;> rcases h' with ⟨t', rfl, rfl, rfl, rfl⟩ | ⟨t', h'⟩
 ·
  exact ⟨rfl, rfl, rfl, rfl⟩
 ·
  rw [t] at t'; cases t'
 ·
  rw [t] at t'; cases t'
 ·
  rcases h with ⟨h1, rfl, rfl, rfl⟩ | ⟨h1, rfl, rfl, h2, rfl⟩ <;> rcases h' with ⟨g1, rfl, rfl, rfl⟩ | ⟨g1, rfl, rfl, g2, rfl⟩
  ·
   have e := bestE_one h1 g1
   subst e
   exact ⟨rfl, rfl, rfl, rfl⟩
  ·
   exact absurd h1.1 (g1 ks)
  ·
   exact absurd g1.1 (h1 ks')
  ·
   exact ⟨rfl, rfl, top_one h2 g2, rfl⟩
theorem Seq.put {w : World} {B r i : Nat} {A : Option Addr} {xs : List Int} {t : TypeId} {row : Array Value} (h : Seq w B A xs) (hr : Blk w r t row) (hrow : ∀ (i : Nat) (z : Int), row[i]? ≠ some (Value.int .u8 z)) (v : Value) : Seq (w.setCell ⟨r, i, none⟩ v) B A xs := fun h0 => by
 obtain ⟨b, o, e, hb, hc⟩ := h h0
 have hne : b ≠ r := fun e2 => by
  subst e2
  have h1 := hc 0 h0
  rw [hr.cell] at h1
  exact hrow _ _ h1
 refine ⟨b, o, e, hb, fun j hj => ?_⟩
 exact (World.cell?_of_block (a := ⟨b, o + j, none⟩) (Below.heap_setCell w ⟨r, i, none⟩ v b hne)).trans (hc j hj)
theorem SeqN.put {w : World} {B r i : Nat} {A : Option Addr} {xs : List Int} {t : TypeId} {row : Array Value} (h : SeqN w B A xs) (hr : Blk w r t row) (hrow : ∀ (i : Nat) (z : Int), row[i]? ≠ some (Value.int .i64 z)) (v : Value) : SeqN (w.setCell ⟨r, i, none⟩ v) B A xs := fun h0 => by
 obtain ⟨b, o, e, hb, hc⟩ := h h0
 have hne : b ≠ r := fun e2 => by
  subst e2
  have h1 := hc 0 h0
  rw [hr.cell] at h1
  exact hrow _ _ h1
 refine ⟨b, o, e, hb, fun j hj => ?_⟩
 exact (World.cell?_of_block (a := ⟨b, o + j, none⟩) (Below.heap_setCell w ⟨r, i, none⟩ v b hne)).trans (hc j hj)
theorem two_slices {A B : Option Addr} {a b c d : Nat} (i : Nat) (k : IntKind) (z : Int) : (#[Value.slice A a b, Value.slice B c d] : Array Value)[i]? ≠ some (.int k z) := by
 match i with
 | 0 => simp
 | 1 => simp
 | n + 2 => simp
def WrEnd (a : Int) (rs : List Rule) (l : List Nat) (w : World) (e : Ending) (w' : World) : Prop :=
 ∃ CA ck PA pk cs ks pl er, e = .returned (.tuple #[.agg #[.slice CA cs.length ck, .slice PA ks.length pk], .int .i64 (pl : Nat), .int .i64 er]) ∧ Seq w' w'.heap.size CA cs ∧ SeqN w' w'.heap.size PA ks ∧ WrR a rs l cs ks pl er ∧ Below w.heap.size w w'
set_option maxRecDepth 10000 in
set_option maxHeartbeats 4000000 in
theorem write_any (m a : Int) (A : Option Addr) (n k : Nat) (rs : List Rule) (s : ByteArray) (w : World) (hn : rs.length = n) (hR : Rules w w.heap.size A rs) (hG : GoodL m a rs) (hmax : n ≤ 64) (hm : 1 ≤ m ∧ m ≤ 8) (ha : 0 ≤ a ∧ a < 256) (hk : n ≤ k) (hs : s.size < 2 ^ 36) :
  Calls Try.prog 32 #[.agg #[.int .i64 m, .int .u8 a, .slice A n k], .string s] w (WrEnd a rs (bytes s) w) := by
 obtain ⟨M, rfl⟩ : ∃ M : Nat, m = (M : Int) := ⟨m.toNat, by omega⟩
 have HP0 : Hid (Blk ((w.alloc (.cells #[.int .i64 M, .int .u8 a, .slice A n k] 30)).alloc (.cells #[.slice none 0 0, .slice none 0 0] 60)) w.heap.size 30 #[.int .i64 M, .int .u8 a, .slice A n k] ∧ Blk ((w.alloc (.cells #[.int .i64 M, .int .u8 a, .slice A n k] 30)).alloc (.cells #[.slice none 0 0, .slice none 0 0] 60)) (w.heap.size + 1) 60 #[.slice none 0 0, .slice none 0 0] ∧ Below w.heap.size w ((w.alloc (.cells #[.int .i64 M, .int .u8 a, .slice A n k] 30)).alloc (.cells #[.slice none 0 0, .slice none 0 0] 60))) := by
  have n2 := Blk.new (w.alloc (.cells #[.int .i64 M, .int .u8 a, .slice A n k] 30)) #[.slice none 0 0, .slice none 0 0] 60
  have e : (w.alloc (.cells #[.int .i64 M, .int .u8 a, .slice A n k] 30)).heap.size = w.heap.size + 1 := by simp
  rw [e] at n2
  exact ⟨(Blk.new _ _ _).box, n2, ((Below.refl _ _).alloc (Nat.le_refl _) _).alloc (by simp) _⟩
 have HR := Lib.hid hR
 have HG := Lib.hid hG
 have HN := Lib.hid hn
 have HTE := Lib.hid (textE_all (bytes s))
 clear hR hG hn
 go_enter Try.func32, Try.ntmps32
 go_upto_region 1 with fail
 generalize (w.alloc (.cells #[.int .i64 M, .int .u8 a, .slice A n k] 30)).alloc (.cells #[.slice none 0 0, .slice none 0 0] 60) = V at *
 obtain ⟨p, hp⟩ : ∃ p, w.heap.size = p := ⟨_, rfl⟩
 rw [hp] at HP0
 simp only [hp]
 obtain ⟨r, hr⟩ : ∃ r, p + 1 = r := ⟨_, rfl⟩
 rw [hr] at HP0
 simp only [hr]
 have HPW := Lib.hid hp
 have HPR : Hid (p ≤ r) := by unfold Hid; omega
 clear hp hr
 have HBV : Hid (Below w.heap.size w V) := by rw [HPW.out]; exact HP0.out.2.2
 have t0 := HP0.out.1.cell 0
 have t1 := HP0.out.1.cell 1
 have t2 := HP0.out.1.cell 2
 have z0 := HP0.out.2.1.cell 0
 have z1 := HP0.out.2.1.cell 1
 have f0 := HP0.out.2.1.free 0
 have f1 := HP0.out.2.1.free 1
 simp only [List.getElem?_toArray, List.getElem?_cons_zero, List.getElem?_cons_succ] at t0 t1 t2 z0 z1
 by_cases ht : isTextB (bytes s) = true
 ·
  have he0 : textE (bytes s) = 0 := by
   have h1 := HTE.out
   rw [ht] at h1
   exact eq_of_beq h1
  have HTX : Hid (∀ W : World, Calls Try.prog 69 #[.string s] W fun e w' => e = .returned (.tuple #[.int .i64 (textAt (bytes s) : Nat), .int .i64 0]) ∧ W = w') := fun W => by
   have h1 := text_any s W (by omega)
   rw [he0] at h1
   exact h1
  have HVL : Hid (∀ W : World, Below V.heap.size V W → Calls Try.prog 70 #[.agg #[.int .i64 M, .int .u8 a, .slice A n k]] W fun e w' => e = .returned (.bool true) ∧ Below W.heap.size W w') := fun W hb => by
   have h1 := valid_table_any A n k M a rs W HN.out (HR.out.up (below_next HBV.out hb)) (by omega) hk ha
   rw [valid_iff.2 HG.out] at h1
   exact h1
  have HT := Lib.hid ht
  clear he0 ht HTE
  go_wp2_with fail
  refine (HTX.out _).mono ?_
  rintro e w1 ⟨rfl, rfl⟩
  go_wp2_with fail
  refine (HVL.out _ (Below.refl _ _)).mono ?_
  rintro e w1 ⟨rfl, hb1⟩
  have HB1 := Lib.hid hb1
  clear HTX HVL t0 t1 t2 z0 z1 f0 f1 hb1
  have t0 := (HP0.out.1.keep HB1.out HP0.out.1.lt).cell 0
  have t1 := (HP0.out.1.keep HB1.out HP0.out.1.lt).cell 1
  have t2 := (HP0.out.1.keep HB1.out HP0.out.1.lt).cell 2
  simp only [List.getElem?_toArray, List.getElem?_cons_zero, List.getElem?_cons_succ] at t0 t1 t2
  go_wp2_with fail
  refine (newWork_any M a A n k rs s M w1 HN.out (HR.out.up (below_next HBV.out HB1.out)) HG.out hm ha rfl hmax (by omega)).mono ?_
  rintro e w2 ⟨q, PV, SV, ps, ss, cg, B1, g, h, rfl, hwm, hrows⟩
  have HW := Lib.hid hwm
  have HT5 := Lib.hid (tab_ok HG.out rfl (by omega) (by rw [bytes_len]; omega) (fun i hi => hrows.1 i (Nat.zero_le _) hi) (fun i hi => hrows.2 i (Nat.zero_le _) hi))
  have HB2 : Hid (Below V.heap.size V w2) := HB1.out.trans (hwm.bb.mono HB1.out.size)
  clear hwm hrows t0 t1 t2 HB1
  go_wp2_with fail
  refine (possible_any w1 q M a A n k rs s PV SV ps ss cg M B1 g h w2 hm rfl HW.out).mono ?_
  rintro e w3 ⟨rfl, hb3⟩
  have HW3 := Lib.hid (HW.out.next hb3)
  have HB3 := Lib.hid (below_next HB2.out hb3)
  clear hb3 HW HB2
  by_cases hpos : h 0 0 < imp
  ·
   rw [decide_eq_true hpos]
   have HPS := Lib.hid hpos
   clear hpos
   go_wp2_with fail
   refine (least_any w1 q M a A n k rs s PV SV ps ss cg M B1 g h w3 HN.out HG.out hm rfl hmax hs HW3.out HT5.out HPS.out).mono ?_
   rintro e w4 ⟨CA, ck, PA, pk, ks, rfl, hsq, hsn, hbest, hb4⟩
   have HB4 := Lib.hid (below_next HB3.out hb4)
   have HZ4 := Lib.hid (HP0.out.2.1.keep HB4.out HP0.out.2.1.lt)
   have h1z : Blk (w4.setCell ⟨r, 0, none⟩ (.slice CA (cellsK rs ks).length ck)) r 60 #[.slice CA (cellsK rs ks).length ck, .slice none 0 0] := HZ4.out.set 0 _
   have h2z : Blk ((w4.setCell ⟨r, 0, none⟩ (.slice CA (cellsK rs ks).length ck)).setCell ⟨r, 1, none⟩ (.slice PA ks.length pk)) r 60 #[.slice CA (cellsK rs ks).length ck, .slice PA ks.length pk] := h1z.set 1 _
   have z0 := HZ4.out.cell 0
   have z1 := HZ4.out.cell 1
   have f0 := HZ4.out.free 0
   have f1 := HZ4.out.free 1
   have e0 := h2z.cell 0
   have e1 := h2z.cell 1
   simp only [List.getElem?_toArray, List.getElem?_cons_zero, List.getElem?_cons_succ] at z0 z1 e0 e1
   have hrw : w.heap.size ≤ r := by rw [HPW.out]; exact HPR.out
   have hsz : ((w4.setCell ⟨r, 0, none⟩ (.slice CA (cellsK rs ks).length ck)).setCell ⟨r, 1, none⟩ (.slice PA ks.length pk)).heap.size = w4.heap.size := by simp
   have HEND : Hid (WrEnd a rs (bytes s) w (.returned (.tuple #[.agg #[.slice CA (cellsK rs ks).length ck, .slice PA ks.length pk], .int .i64 (s.size : Nat), .int .i64 0])) ((w4.setCell ⟨r, 0, none⟩ (.slice CA (cellsK rs ks).length ck)).setCell ⟨r, 1, none⟩ (.slice PA ks.length pk))) := by
    refine ⟨CA, ck, PA, pk, _, _, _, _, rfl, ?_, ?_, .inr ⟨HT.out, .inl ⟨hbest, rfl, (bytes_len s).symm, rfl⟩⟩, ((below_next HBV.out HB4.out).setCell hrw _).setCell hrw _⟩
    ·
     rw [hsz]; exact (hsq.put HZ4.out (fun i z => two_slices i .u8 z) _).put h1z (fun i z => two_slices i .u8 z) _
    ·
     rw [hsz]; exact (hsn.put HZ4.out (fun i z => two_slices i .i64 z) _).put h1z (fun i z => two_slices i .i64 z) _
   clear h1z h2z hsz hsq hsn hbest hb4 HB3 HW3 HB4 HZ4
   go_wp2_with fail
   refine bodyPost_ret (v := .tuple #[.agg #[.slice CA (cellsK rs ks).length ck, .slice PA ks.length pk], .int .i64 s.size, .int .i64 0]) (by simp [results, Try.results32, go_sem, e0, e1]) rfl HEND.out
  ·
   rw [decide_eq_false hpos]
   have hno : h 0 0 = imp := by
    have h1 := HT5.out.top 0 0 (Nat.zero_le _) (by omega)
    omega
   have HNO := Lib.hid (HT5.out.none 0 0 (Nat.zero_le _) (by omega) hno)
   clear hpos hno
   go_wp2_with fail
   refine (reached_any w1 q M a A n k rs s PV SV ps ss cg M B1 g h w3 HN.out HG.out hm rfl hmax hs HW3.out).mono ?_
   rintro e w4 ⟨G, rfl, htop, hb4⟩
   have HB4 := Lib.hid (below_next HB3.out hb4)
   have HZ4 := Lib.hid (HP0.out.2.1.keep HB4.out HP0.out.2.1.lt)
   have h1z : Blk (w4.setCell ⟨r, 0, none⟩ (.slice none 0 0)) r 60 #[.slice none 0 0, .slice none 0 0] := HZ4.out.set 0 _
   have h2z : Blk ((w4.setCell ⟨r, 0, none⟩ (.slice none 0 0)).setCell ⟨r, 1, none⟩ (.slice none 0 0)) r 60 #[.slice none 0 0, .slice none 0 0] := h1z.set 1 _
   have z0 := HZ4.out.cell 0
   have z1 := HZ4.out.cell 1
   have f0 := HZ4.out.free 0
   have f1 := HZ4.out.free 1
   have e0 := h2z.cell 0
   have e1 := h2z.cell 1
   simp only [List.getElem?_toArray, List.getElem?_cons_zero, List.getElem?_cons_succ] at z0 z1 e0 e1
   have hrw : w.heap.size ≤ r := by rw [HPW.out]; exact HPR.out
   have hsz : ((w4.setCell ⟨r, 0, none⟩ (.slice none 0 0)).setCell ⟨r, 1, none⟩ (.slice none 0 0)).heap.size = w4.heap.size := by simp
   have HEND : Hid (WrEnd a rs (bytes s) w (.returned (.tuple #[.agg #[.slice none 0 0, .slice none 0 0], .int .i64 (G : Nat), .int .i64 61])) ((w4.setCell ⟨r, 0, none⟩ (.slice none 0 0)).setCell ⟨r, 1, none⟩ (.slice none 0 0))) := by
    refine ⟨none, 0, none, 0, _, _, _, _, rfl, ?_, ?_, .inr ⟨HT.out, .inr ⟨HNO.out, rfl, rfl, htop, rfl⟩⟩, ((below_next HBV.out HB4.out).setCell hrw _).setCell hrw _⟩
    ·
     rw [hsz]; exact ((Seq.nil (w := w4) (A := none)).put HZ4.out (fun i z => two_slices i .u8 z) _).put h1z (fun i z => two_slices i .u8 z) _
    ·
     rw [hsz]; exact ((show SeqN w4 w4.heap.size none [] from fun h => absurd h (by simp)).put HZ4.out (fun i z => two_slices i .i64 z) _).put h1z (fun i z => two_slices i .i64 z) _
   clear h1z h2z hsz htop hb4 HB3 HW3 HB4 HZ4
   go_wp2_with fail
   refine bodyPost_ret (v := .tuple #[.agg #[.slice none 0 0, .slice none 0 0], .int .i64 G, .int .i64 61]) (by simp [results, Try.results32, go_sem, e0, e1]) rfl HEND.out
 ·
  have he0 : textE (bytes s) = 60 := by
   have h1 := HTE.out
   rw [Bool.eq_false_iff.2 ht] at h1
   unfold textE at h1 ⊢
   split
   ·
    rename_i h2; rw [if_pos h2] at h1; cases h1
   ·
    rfl
  have HTX : Hid (∀ W : World, Calls Try.prog 69 #[.string s] W fun e w' => e = .returned (.tuple #[.int .i64 (textAt (bytes s) : Nat), .int .i64 60]) ∧ W = w') := fun W => by
   have h1 := text_any s W (by omega)
   rw [he0] at h1
   exact h1
  have HT := Lib.hid (Bool.eq_false_iff.2 ht)
  have HZ4 := Lib.hid HP0.out.2.1
  clear he0 ht HTE z0 z1 f0 f1
  have h1z : Blk (V.setCell ⟨r, 0, none⟩ (.slice none 0 0)) r 60 #[.slice none 0 0, .slice none 0 0] := HZ4.out.set 0 _
  have h2z : Blk ((V.setCell ⟨r, 0, none⟩ (.slice none 0 0)).setCell ⟨r, 1, none⟩ (.slice none 0 0)) r 60 #[.slice none 0 0, .slice none 0 0] := h1z.set 1 _
  have z0 := HZ4.out.cell 0
  have z1 := HZ4.out.cell 1
  have f0 := HZ4.out.free 0
  have f1 := HZ4.out.free 1
  have e0 := h2z.cell 0
  have e1 := h2z.cell 1
  simp only [List.getElem?_toArray, List.getElem?_cons_zero, List.getElem?_cons_succ] at z0 z1 e0 e1
  have hrw : w.heap.size ≤ r := by rw [HPW.out]; exact HPR.out
  have hsz : ((V.setCell ⟨r, 0, none⟩ (.slice none 0 0)).setCell ⟨r, 1, none⟩ (.slice none 0 0)).heap.size = V.heap.size := by simp
  have HEND : Hid (WrEnd a rs (bytes s) w (.returned (.tuple #[.agg #[.slice none 0 0, .slice none 0 0], .int .i64 (textAt (bytes s) : Nat), .int .i64 60])) ((V.setCell ⟨r, 0, none⟩ (.slice none 0 0)).setCell ⟨r, 1, none⟩ (.slice none 0 0))) := by
   refine ⟨none, 0, none, 0, _, _, _, _, rfl, ?_, ?_, .inl ⟨HT.out, rfl, rfl, rfl, rfl⟩, (HBV.out.setCell hrw _).setCell hrw _⟩
   ·
    rw [hsz]; exact ((Seq.nil (w := V) (A := none)).put HZ4.out (fun i z => two_slices i .u8 z) _).put h1z (fun i z => two_slices i .u8 z) _
   ·
    rw [hsz]; exact ((show SeqN V V.heap.size none [] from fun h => absurd h (by simp)).put HZ4.out (fun i z => two_slices i .i64 z) _).put h1z (fun i z => two_slices i .i64 z) _
  clear h1z h2z hsz
  go_wp2_with fail
  refine (HTX.out _).mono ?_
  rintro e w1 ⟨rfl, rfl⟩
  go_wp2_with fail
  refine bodyPost_ret (v := .tuple #[.agg #[.slice none 0 0, .slice none 0 0], .int .i64 (textAt (bytes s) : Nat), .int .i64 60]) (by simp [results, Try.results32, go_sem, e0, e1]) rfl HEND.out
end Go.Proofs.Ytpkdlljefkbmpaa

/-! Package translate: Cost, Writes. -/
namespace Go.Proofs.Ytpkdlljefkbmpaa
open Go.RowKit Go.Maps
def CostR (a : Int) (rs : List Rule) (l : List Nat) (v : Int) : Prop := ∃ cs ks pl er, WrR a rs l cs ks pl er ∧ ((er = 0 ∧ v = (cs.length : Int)) ∨ (er ≠ 0 ∧ v = -1))
theorem costR_one {a : Int} {rs : List Rule} {l : List Nat} {v v' : Int} (h : CostR a rs l v) (h' : CostR a rs l v') : v = v' := by
 obtain ⟨cs, ks, pl, er, h1, h2⟩ := h
 obtain ⟨cs', ks', pl', er', g1, g2⟩ := h'
 obtain ⟨rfl, rfl, rfl, rfl⟩ := wrR_one h1 g1
 rcases h2 with ⟨e, rfl⟩ | ⟨e, rfl⟩ <;> rcases g2 with ⟨e', rfl⟩ | ⟨e', rfl⟩
 ·
  rfl
 ·
  exact absurd e e'
 ·
  exact absurd e' e
 ·
  rfl
theorem wrR_er {a : Int} {rs : List Rule} {l : List Nat} {cs ks : List Int} {pl : Nat} {er : Int} (h : WrR a rs l cs ks pl er) : er = 0 ∨ er = 60 ∨ er = 61 := by
 rcases h with ⟨_, _, _, _, h⟩ | ⟨_, ⟨_, _, _, h⟩ | ⟨_, _, _, _, h⟩⟩
 ·
  exact .inr (.inl h)
 ·
  exact .inl h
 ·
  exact .inr (.inr h)
def CostEnd (a : Int) (rs : List Rule) (l : List Nat) (w : World) (e : Ending) (w' : World) : Prop := ∃ v, e = .returned (.int .i64 v) ∧ CostR a rs l v ∧ Below w.heap.size w w'
set_option maxRecDepth 10000 in
set_option maxHeartbeats 4000000 in
theorem cost_any (m a : Int) (A : Option Addr) (n k : Nat) (rs : List Rule) (s : ByteArray) (w : World) (hn : rs.length = n) (hR : Rules w w.heap.size A rs) (hG : GoodL m a rs) (hmax : n ≤ 64) (hm : 1 ≤ m ∧ m ≤ 8) (ha : 0 ≤ a ∧ a < 256) (hk : n ≤ k) (hs : s.size < 2 ^ 36) :
  Calls Try.prog 35 #[.agg #[.int .i64 m, .int .u8 a, .slice A n k], .string s] w (CostEnd a rs (bytes s) w) := by
 have HB := Lib.hid (below_box w #[.int .i64 m, .int .u8 a, .slice A n k] 30)
 have HT := Lib.hid (Blk.new w #[.int .i64 m, .int .u8 a, .slice A n k] 30)
 have HR := Lib.hid (hR.up HB.out)
 have HWR := Lib.hid (fun W (h : Rules W W.heap.size A rs) => write_any m a A n k rs s W hn h hG hmax hm ha hk hs)
 clear hR hG hn
 go_enter Try.func35, Try.ntmps35
 go_upto_region 1 with fail
 generalize w.alloc (.cells #[.int .i64 m, .int .u8 a, .slice A n k] 30) = V at *
 obtain ⟨p, hp⟩ : ∃ p, w.heap.size = p := ⟨_, rfl⟩
 rw [hp] at HT
 simp only [hp]
 have HPW := Lib.hid hp
 clear hp
 have t0 := HT.out.cell 0
 have t1 := HT.out.cell 1
 have t2 := HT.out.cell 2
 simp only [List.getElem?_toArray, List.getElem?_cons_zero, List.getElem?_cons_succ] at t0 t1 t2
 go_wp2_with fail
 refine (HWR.out _ HR.out).mono ?_
 rintro e w1 ⟨CA, ck, PA, pk, cs, ks, pl, er, rfl, hsq, hsn, hwr, hb1⟩
 have hbx := below_box w1 #[.slice CA cs.length ck, .slice PA ks.length pk] 60
 have HBX := Lib.hid (below_next HB.out (below_next hb1 hbx))
 have HX : Hid (Blk (w1.alloc (.cells #[.slice CA cs.length ck, .slice PA ks.length pk] 60)) w1.heap.size 60 #[.slice CA cs.length ck, .slice PA ks.length pk]) := Blk.new _ _ _
 have x0 := HX.out.cell 0
 simp only [List.getElem?_toArray, List.getElem?_cons_zero] at x0
 have hec := wrR_er hwr
 have HWRR := Lib.hid hwr
 clear hwr hb1 hbx hsq hsn HWR HR t0 t1 t2
 by_cases he : er = 0
 ·
  subst he
  have HEND : Hid (CostEnd a rs (bytes s) w (.returned (.int .i64 (cs.length : Int))) (w1.alloc (.cells #[.slice CA cs.length ck, .slice PA ks.length pk] 60))) := ⟨_, rfl, ⟨cs, ks, pl, 0, HWRR.out, .inl ⟨rfl, rfl⟩⟩, HBX.out⟩
  clear HBX HX HWRR hec
  go_wp2_with fail
  go_ret
  exact HEND.out
 ·
  have HEND : Hid (CostEnd a rs (bytes s) w (.returned (.int .i64 (-1))) (w1.alloc (.cells #[.slice CA cs.length ck, .slice PA ks.length pk] 60))) := ⟨_, rfl, ⟨cs, ks, pl, er, HWRR.out, .inr ⟨he, rfl⟩⟩, HBX.out⟩
  have heb : (er != 0) = true := by rw [bne_iff_ne]; exact he
  clear HBX HX HWRR hec he
  go_wp2_with fail
  go_ret
  exact HEND.out
theorem run_cl2 {m a : Int} {rs : List Rule} (hG : GoodL m a rs) : ∀ (ks : List Int) (t : R0), (runGo rs ks t).c.length ≤ t.c.length + 4 * ks.length := by
 intro ks
 induction ks with
 | nil => intro t; exact Nat.le_refl _
 | cons k r ih =>
  intro t
  unfold runGo
  split
  ·
   rename_i h2
   have h1 := ih (t.add (ruleOf rs k) (stepS rs t.st k).1)
   obtain ⟨j, _, hj, hx⟩ := step_at h2
   obtain ⟨_, _, z3⟩ := sound_sizes hG (List.getElem_mem hj)
   rw [← hx] at z3
   have h3 : (t.add (ruleOf rs k) (stepS rs t.st k).1).c.length = t.c.length + (ruleOf rs k).c.length := by
    show (t.c ++ (ruleOf rs k).c).length = _
    rw [List.length_append]
   rw [List.length_cons]
   omega
  ·
   rw [List.length_cons]; omega
theorem run_small {m a : Int} {rs : List Rule} (hG : GoodL m a rs) (ks : List Int) : (runT rs ks).c.length ≤ 4 * ks.length := by
 have h1 : (runT rs ks).c.length ≤ 0 + 4 * ks.length := run_cl2 hG ks ⟨[], [], 0, St.start⟩
 omega
def wrsB (a : Int) (rs : List Rule) (s : ByteArray) (cs ks : List Int) : Bool := runOk a rs ks && (((strOf (runT rs ks).p).toList == s.toList) && eqB (runT rs ks).c cs)
set_option maxRecDepth 10000 in
set_option maxHeartbeats 4000000 in
theorem writes_any (m a : Int) (A : Option Addr) (n k : Nat) (rs : List Rule) (s : ByteArray) (CA PA : Option Addr) (cn ck pn pk : Nat) (cs ks : List Int) (w : World) (hn : rs.length = n) (hR : Rules w w.heap.size A rs) (hG : GoodL m a rs) (hmax : n ≤ 64) (hm : 1 ≤ m ∧ m ≤ 8) (ha : 0 ≤ a ∧ a < 256) (hcs : cs.length = cn) (hks : ks.length = pn) (hC : Seq w w.heap.size CA cs) (hP : SeqN w w.heap.size PA ks) (hpn : pn ≤ 1000000) :
  Calls Try.prog 68 #[.agg #[.int .i64 m, .int .u8 a, .slice A n k], .agg #[.slice CA cn ck, .slice PA pn pk], .string s] w fun e w' => e = .returned (.bool (wrsB a rs s cs ks)) ∧ Below w.heap.size w w' := by
 have HP0 : Hid (Blk ((w.alloc (.cells #[.int .i64 m, .int .u8 a, .slice A n k] 30)).alloc (.cells #[.slice CA cn ck, .slice PA pn pk] 60)) w.heap.size 30 #[.int .i64 m, .int .u8 a, .slice A n k] ∧ Blk ((w.alloc (.cells #[.int .i64 m, .int .u8 a, .slice A n k] 30)).alloc (.cells #[.slice CA cn ck, .slice PA pn pk] 60)) (w.heap.size + 1) 60 #[.slice CA cn ck, .slice PA pn pk] ∧ Below w.heap.size w ((w.alloc (.cells #[.int .i64 m, .int .u8 a, .slice A n k] 30)).alloc (.cells #[.slice CA cn ck, .slice PA pn pk] 60))) := by
  have n2 := Blk.new (w.alloc (.cells #[.int .i64 m, .int .u8 a, .slice A n k] 30)) #[.slice CA cn ck, .slice PA pn pk] 60
  have e : (w.alloc (.cells #[.int .i64 m, .int .u8 a, .slice A n k] 30)).heap.size = w.heap.size + 1 := by simp
  rw [e] at n2
  exact ⟨(Blk.new _ _ _).box, n2, ((Below.refl _ _).alloc (Nat.le_refl _) _).alloc (by simp) _⟩
 have HWB : Hid (wrsB a rs s cs ks = (runOk a rs ks && (((strOf (runT rs ks).p).toList == s.toList) && eqB (runT rs ks).c cs))) := rfl
 obtain ⟨vb, hvb⟩ : ∃ vb, wrsB a rs s cs ks = vb := ⟨_, rfl⟩
 rw [hvb] at HWB ⊢
 clear hvb
 have HRUN := Lib.hid (fun W (hb : Below w.heap.size w W) => run_any m a A n k rs PA pn pk ks W hn (hR.up hb) hG hmax hm ha hks (hP.up hb) hpn)
 have HC := Lib.hid hC
 have HSZ := Lib.hid (run_small hG ks)
 clear hR hG hn hP hC
 go_enter Try.func68, Try.ntmps68
 go_upto_region 1 with fail
 generalize (w.alloc (.cells #[.int .i64 m, .int .u8 a, .slice A n k] 30)).alloc (.cells #[.slice CA cn ck, .slice PA pn pk] 60) = V at *
 obtain ⟨p, hp⟩ : ∃ p, w.heap.size = p := ⟨_, rfl⟩
 rw [hp] at HP0
 simp only [hp]
 obtain ⟨r, hr⟩ : ∃ r, p + 1 = r := ⟨_, rfl⟩
 rw [hr] at HP0
 simp only [hr]
 have HPW := Lib.hid hp
 clear hp hr
 have HBV : Hid (Below w.heap.size w V) := by rw [HPW.out]; exact HP0.out.2.2
 have t0 := HP0.out.1.cell 0
 have t1 := HP0.out.1.cell 1
 have t2 := HP0.out.1.cell 2
 have z1 := HP0.out.2.1.cell 1
 simp only [List.getElem?_toArray, List.getElem?_cons_zero, List.getElem?_cons_succ] at t0 t1 t2 z1
 go_wp2_with fail
 refine (HRUN.out _ HBV.out).mono ?_
 rintro e w1 ⟨RA, rk, rfl, hrs, hb1⟩
 have hbx := below_box w1 #[.string (strOf (runT rs ks).p), .slice RA (runT rs ks).c.length rk, .int .i64 ((runT rs ks).n : Nat), .int .i64 (runT rs ks).st.mode, .int .i64 (runT rs ks).st.last, .int .u8 (runT rs ks).st.need, .bool (runOk a rs ks)] 49
 have HX : Hid (Blk (w1.alloc (.cells #[.string (strOf (runT rs ks).p), .slice RA (runT rs ks).c.length rk, .int .i64 ((runT rs ks).n : Nat), .int .i64 (runT rs ks).st.mode, .int .i64 (runT rs ks).st.last, .int .u8 (runT rs ks).st.need, .bool (runOk a rs ks)] 49)) w1.heap.size 49 #[.string (strOf (runT rs ks).p), .slice RA (runT rs ks).c.length rk, .int .i64 ((runT rs ks).n : Nat), .int .i64 (runT rs ks).st.mode, .int .i64 (runT rs ks).st.last, .int .u8 (runT rs ks).st.need, .bool (runOk a rs ks)]) := Blk.new _ _ _
 have HB2 := Lib.hid (below_next HBV.out (below_next hb1 hbx))
 have HZ2 := Lib.hid (HP0.out.2.1.keep (below_next hb1 hbx) HP0.out.2.1.lt)
 have HRS := Lib.hid ((hrs.keep hbx).more hbx.size)
 have HCS := Lib.hid ((HC.out.keep HB2.out).more HB2.out.size)
 have hcl : (runT rs ks).c.length < 2 ^ 47 := by have := HSZ.out; omega
 clear hbx hb1 hrs HRUN HC HSZ t0 t1 t2 z1 HBV
 obtain ⟨W, hWe⟩ : ∃ W, w1.alloc (.cells #[.string (strOf (runT rs ks).p), .slice RA (runT rs ks).c.length rk, .int .i64 ((runT rs ks).n : Nat), .int .i64 (runT rs ks).st.mode, .int .i64 (runT rs ks).st.last, .int .u8 (runT rs ks).st.need, .bool (runOk a rs ks)] 49) = W := ⟨_, rfl⟩
 rw [hWe] at HX HB2 HZ2 HRS HCS
 go_upto_region 2 with fail
 clear hWe
 have x0 := HX.out.cell 0
 have x1 := HX.out.cell 1
 have x4 := HX.out.cell 6
 have z0 := HZ2.out.cell 0
 simp only [List.getElem?_toArray, List.getElem?_cons_zero, List.getElem?_cons_succ] at x0 x1 x4 z0
 obtain ⟨ob, hob⟩ : ∃ ob, runOk a rs ks = ob := ⟨_, rfl⟩
 obtain ⟨sb, hsb⟩ : ∃ sb, ((strOf (runT rs ks).p).toList == s.toList) = sb := ⟨_, rfl⟩
 rw [hob, hsb] at HWB
 rw [hob] at x4
 clear hob
 have HEQ := Lib.hid (equalCells_any RA CA (runT rs ks).c.length cn rk ck (runT rs ks).c cs W rfl hcs HRS.out HCS.out hcl)
 clear HRS HCS HZ2 HX
 cases ob with
 | false =>
  obtain rfl : vb = false := HWB.out
  go_wp2_with fail
  go_ret
  exact ⟨rfl, HB2.out⟩
 | true =>
  cases sb with
  | false =>
   obtain rfl : vb = false := HWB.out
   go_wp2_with fail
   go_ret
   exact ⟨rfl, HB2.out⟩
  | true =>
   obtain rfl : vb = eqB (runT rs ks).c cs := HWB.out
   go_wp2_with fail
   refine HEQ.out.mono ?_
   rintro e w3 ⟨rfl, hb3⟩
   have HB3 := Lib.hid (below_next HB2.out hb3)
   clear hb3 HEQ HB2 x0 x1 x4 z0
   go_wp2_with fail
   go_ret
   exact ⟨rfl, HB3.out⟩
end Go.Proofs.Ytpkdlljefkbmpaa

/-! law06: the reference's Same, the law's rule, writes and refuses. -/
namespace Go.Proofs.Ytpkdlljefkbmpaa
open Go.RowKit Go.Maps
def IntsEnd (xs ys : List Int) (w : World) (e : Ending) (w' : World) : Prop := e = .returned (.bool (eqB xs ys)) ∧ Below w.heap.size w w'
set_option maxRecDepth 10000 in
set_option maxHeartbeats 1000000 in
theorem ints_any (A B : Option Addr) (n m k l : Nat) (xs ys : List Int) (w : World) (hx : xs.length = n) (hy : ys.length = m) (hA : SeqN w w.heap.size A xs) (hB : SeqN w w.heap.size B ys) (hn : n < 2 ^ 40) :
  Calls Try.prog 78 #[.slice A n k, .slice B m l] w (IntsEnd xs ys w) := by
 subst hx hy
 have HA := Lib.hid hA
 have HB := Lib.hid hB
 clear hA hB
 by_cases hl : xs.length = ys.length
 ·
  have HL := Lib.hid hl
  go_enter Try.func78, Try.ntmps78
  rw [hl]
  go_wp2_with fail
  go_loopw [5] (fun x wr => ∃ i : Nat, x = .int .i64 i ∧ i ≤ ys.length ∧ xs.take i = ys.take i ∧ Below w.heap.size w wr) (fun x _ => ys.length - (intOf x).toNat)
  case atStart => exact ⟨0, rfl, Nat.zero_le _, rfl, Below.refl _ _⟩
  case round =>
   obtain ⟨i, rfl, hi1, hc, hb⟩ := hrel
   have HC := Lib.hid hc
   have HW := Lib.hid hb
   clear hc hb
   by_cases hlt : i < ys.length
   ·
    have hl1 : i < xs.length := by omega
    obtain ⟨ab, ao, rfl, hab, hac⟩ := HA.out (by omega)
    obtain ⟨bb, bo, rfl, hbb, hbc⟩ := HB.out (by omega)
    have a0 := (HW.out.cell (p := ⟨ab, ao + i, none⟩) hab).trans (hac i hl1)
    have b0 := (HW.out.cell (p := ⟨bb, bo + i, none⟩) hbb).trans (hbc i hlt)
    have HST : Hid (xs[i]'hl1 = ys[i]'hlt → xs.take (i + 1) = ys.take (i + 1)) := fun e => (take_same hl1 hlt).2 ⟨HC.out, e⟩
    have HNE : Hid (xs[i]'hl1 ≠ ys[i]'hlt → eqB xs ys = false) := fun h => eqB_ne (fun e => by subst e; exact h rfl)
    have hi0 : (0 : Int) ≤ (i : Int) := by omega
    have him : (i : Int) < (ys.length : Int) := by omega
    clear hac hbc hl
    generalize xs[i]'hl1 = xv at *
    generalize ys[i]'hlt = yv at *
    by_cases he : xv = yv
    ·
     subst he
     have hbe : (xv != xv) = false := by simp
     have HSU := Lib.hid (HST.out rfl)
     go_upto_region 6 with fail
     go_region
     go_wp2_with fail
     exact ⟨⟨i + 1, by go_num, hlt, HSU.out, HW.out.drew⟩, by simp [intOf]; omega⟩
    ·
     have hbe : (xv != yv) = true := by rw [bne_iff_ne]; exact he
     have HF := Lib.hid (HNE.out he)
     clear he
     go_upto_region 6 with fail
     go_region
     go_wp2_with fail
     go_ret
     exact ⟨ret_bool HF.out.symm, HW.out.drew⟩
   ·
    have hie : i = ys.length := by omega
    subst hie
    have HT : Hid (eqB xs ys = true) := by
     refine eqB_refl ?_
     have h := HC.out
     rw [List.take_of_length_le (by have := HL.out; omega), List.take_of_length_le (Nat.le_refl _)] at h
     exact h
    clear HC
    go_wp2_with fail
    go_ret
    exact ⟨ret_bool HT.out.symm, HW.out⟩
 ·
  have HF : Hid (eqB xs ys = false) := eqB_ne (fun e => hl (by rw [e]))
  have hlb : ((xs.length : Int) != (ys.length : Int)) = true := by rw [bne_iff_ne]; omega
  go_enter Try.func78, Try.ntmps78
  go_wp2_with fail
  go_ret
  exact ⟨ret_bool HF.out.symm, Below.refl _ _⟩
structure WrAt (w : World) (CA : Option Addr) (cn ck : Nat) (PA : Option Addr) (pn pk : Nat) (cs ks : List Int) : Prop where
 c : Seq w w.heap.size CA cs
 p : SeqN w w.heap.size PA ks
 cl : cs.length = cn
 pl : ks.length = pn
theorem WrAt.up {w w' : World} {CA PA : Option Addr} {cn ck pn pk : Nat} {cs ks : List Int} (h : WrAt w CA cn ck PA pn pk cs ks) (hb : Below w.heap.size w w') : WrAt w' CA cn ck PA pn pk cs ks := ⟨(h.c.keep hb).more hb.size, h.p.up hb, h.cl, h.pl⟩
set_option maxRecDepth 10000 in
set_option maxHeartbeats 1000000 in
theorem same6_any (CA PA DA QA : Option Addr) (cn ck pn pk dn dk qn qk : Nat) (cs ks ds qs : List Int) (w : World) (h1 : WrAt w CA cn ck PA pn pk cs ks) (h2 : WrAt w DA dn dk QA qn qk ds qs) (hc : cn < 2 ^ 40) (hp : pn < 2 ^ 40) :
  Calls Try.prog 34 #[.agg #[.slice CA cn ck, .slice PA pn pk], .agg #[.slice DA dn dk, .slice QA qn qk]] w fun e w' => e = .returned (.bool (eqB cs ds && eqB ks qs)) ∧ Below w.heap.size w w' := by
 have HP0 : Hid (Blk ((w.alloc (.cells #[.slice CA cn ck, .slice PA pn pk] 60)).alloc (.cells #[.slice DA dn dk, .slice QA qn qk] 60)) w.heap.size 60 #[.slice CA cn ck, .slice PA pn pk] ∧ Blk ((w.alloc (.cells #[.slice CA cn ck, .slice PA pn pk] 60)).alloc (.cells #[.slice DA dn dk, .slice QA qn qk] 60)) (w.heap.size + 1) 60 #[.slice DA dn dk, .slice QA qn qk] ∧ Below w.heap.size w ((w.alloc (.cells #[.slice CA cn ck, .slice PA pn pk] 60)).alloc (.cells #[.slice DA dn dk, .slice QA qn qk] 60))) := by
  have n2 := Blk.new (w.alloc (.cells #[.slice CA cn ck, .slice PA pn pk] 60)) #[.slice DA dn dk, .slice QA qn qk] 60
  have e : (w.alloc (.cells #[.slice CA cn ck, .slice PA pn pk] 60)).heap.size = w.heap.size + 1 := by simp
  rw [e] at n2
  exact ⟨(Blk.new _ _ _).box, n2, ((Below.refl _ _).alloc (Nat.le_refl _) _).alloc (by simp) _⟩
 have H1 := Lib.hid (h1.up HP0.out.2.2)
 have H2 := Lib.hid (h2.up HP0.out.2.2)
 obtain ⟨b1, hb1⟩ : ∃ b1, eqB cs ds = b1 := ⟨_, rfl⟩
 obtain ⟨b2, hb2⟩ : ∃ b2, eqB ks qs = b2 := ⟨_, rfl⟩
 rw [hb1, hb2]
 have HB1 := Lib.hid hb1
 have HB2 := Lib.hid hb2
 clear h1 h2 hb1 hb2
 go_enter Try.func34, Try.ntmps34
 go_upto_region 1 with fail
 generalize (w.alloc (.cells #[.slice CA cn ck, .slice PA pn pk] 60)).alloc (.cells #[.slice DA dn dk, .slice QA qn qk] 60) = V at *
 obtain ⟨p, hp0⟩ : ∃ p, w.heap.size = p := ⟨_, rfl⟩
 rw [hp0] at HP0
 simp only [hp0]
 obtain ⟨r, hr⟩ : ∃ r, p + 1 = r := ⟨_, rfl⟩
 rw [hr] at HP0
 simp only [hr]
 have HPW := Lib.hid hp0
 clear hp0 hr
 have a0 := HP0.out.1.cell 0
 have b0 := HP0.out.2.1.cell 0
 simp only [List.getElem?_toArray, List.getElem?_cons_zero] at a0 b0
 have HBV : Hid (Below w.heap.size w V) := by rw [HPW.out]; exact HP0.out.2.2
 go_wp2_with fail
 refine (sameCells_any CA DA cn dn ck dk cs ds V H1.out.cl H2.out.cl H1.out.c H2.out.c (by omega)).mono ?_
 rintro e w1 ⟨rfl, hb1⟩
 rw [HB1.out]
 have HB3 := Lib.hid (below_next HBV.out hb1)
 have H3 := Lib.hid (H1.out.up hb1)
 have H4 := Lib.hid (H2.out.up hb1)
 have a1 := (HP0.out.1.keep hb1 HP0.out.1.lt).cell 1
 have c1 := (HP0.out.2.1.keep hb1 HP0.out.2.1.lt).cell 1
 simp only [List.getElem?_toArray, List.getElem?_cons_zero, List.getElem?_cons_succ] at a1 c1
 clear a0 b0 hb1 HBV H1 H2 HP0
 cases b1 with
 | false =>
  go_wp2_with fail
  go_ret
  exact ⟨rfl, HB3.out⟩
 | true =>
  go_wp2_with fail
  refine (ints_any PA QA pn qn pk qk ks qs w1 H3.out.pl H4.out.pl H3.out.p H4.out.p hp).mono ?_
  rintro e w2 ⟨rfl, hb2⟩
  rw [HB2.out]
  have HB4 := Lib.hid (below_next HB3.out hb2)
  clear a1 c1 hb2 HB3 H3 H4
  go_wp2_with fail
  go_ret
  exact ⟨rfl, HB4.out⟩
end Go.Proofs.Ytpkdlljefkbmpaa

/-! law06: the law's rule, writes and refuses; what the fixed examples give, purely. -/
namespace Go.Proofs.Ytpkdlljefkbmpaa
open Go.RowKit Go.Maps
structure TbAt (m a : Int) (A : Option Addr) (n k : Nat) (rs : List Rule) (w : World) : Prop where
 hr : Rules w w.heap.size A rs
 hg : GoodL m a rs
 hn : rs.length = n
 hx : n ≤ 64
 hm : 1 ≤ m ∧ m ≤ 8
 ha : 0 ≤ a ∧ a < 256
 hk : n ≤ k
theorem TbAt.up {m a : Int} {A : Option Addr} {n k : Nat} {rs : List Rule} {w w' : World} (h : TbAt m a A n k rs w) (hb : Below w.heap.size w w') : TbAt m a A n k rs w' := ⟨h.hr.up hb, h.hg, h.hn, h.hx, h.hm, h.ha, h.hk⟩
set_option maxRecDepth 10000 in
set_option maxHeartbeats 1000000 in
theorem writesL_any (m a : Int) (A : Option Addr) (n k : Nat) (rs : List Rule) (s : ByteArray) (DA QA : Option Addr) (dn dk qn qk : Nat) (ds qs : List Int) (w : World) (hT : TbAt m a A n k rs w) (hs : s.size < 2 ^ 36) (hW : WrAt w DA dn dk QA qn qk ds qs) (hR : WrR a rs (bytes s) ds qs s.size 0) (hdn : dn < 2 ^ 40) (hqn : qn < 2 ^ 40) :
  Calls Try.prog 66 #[.agg #[.int .i64 m, .int .u8 a, .slice A n k], .string s, .agg #[.slice DA dn dk, .slice QA qn qk]] w fun e w' => e = .returned (.bool true) ∧ Below w.heap.size w w' := by
 have HP0 : Hid (Blk ((w.alloc (.cells #[.int .i64 m, .int .u8 a, .slice A n k] 30)).alloc (.cells #[.slice DA dn dk, .slice QA qn qk] 60)) w.heap.size 30 #[.int .i64 m, .int .u8 a, .slice A n k] ∧ Blk ((w.alloc (.cells #[.int .i64 m, .int .u8 a, .slice A n k] 30)).alloc (.cells #[.slice DA dn dk, .slice QA qn qk] 60)) (w.heap.size + 1) 60 #[.slice DA dn dk, .slice QA qn qk] ∧ Below w.heap.size w ((w.alloc (.cells #[.int .i64 m, .int .u8 a, .slice A n k] 30)).alloc (.cells #[.slice DA dn dk, .slice QA qn qk] 60))) := by
  have n2 := Blk.new (w.alloc (.cells #[.int .i64 m, .int .u8 a, .slice A n k] 30)) #[.slice DA dn dk, .slice QA qn qk] 60
  have e : (w.alloc (.cells #[.int .i64 m, .int .u8 a, .slice A n k] 30)).heap.size = w.heap.size + 1 := by simp
  rw [e] at n2
  exact ⟨(Blk.new _ _ _).box, n2, ((Below.refl _ _).alloc (Nat.le_refl _) _).alloc (by simp) _⟩
 have HT := Lib.hid hT
 have HW := Lib.hid hW
 have HRR := Lib.hid hR
 clear hT hW hR
 go_enter Try.func66, Try.ntmps66
 go_upto_region 1 with fail
 generalize (w.alloc (.cells #[.int .i64 m, .int .u8 a, .slice A n k] 30)).alloc (.cells #[.slice DA dn dk, .slice QA qn qk] 60) = V at *
 obtain ⟨p, hp0⟩ : ∃ p, w.heap.size = p := ⟨_, rfl⟩
 rw [hp0] at HP0
 simp only [hp0]
 obtain ⟨r, hr⟩ : ∃ r, p + 1 = r := ⟨_, rfl⟩
 rw [hr] at HP0
 simp only [hr]
 have HPW := Lib.hid hp0
 clear hp0 hr
 have HBV : Hid (Below w.heap.size w V) := by rw [HPW.out]; exact HP0.out.2.2
 have t0 := HP0.out.1.cell 0
 have t1 := HP0.out.1.cell 1
 have t2 := HP0.out.1.cell 2
 simp only [List.getElem?_toArray, List.getElem?_cons_zero, List.getElem?_cons_succ] at t0 t1 t2
 have HTV := Lib.hid (HT.out.up HBV.out)
 go_wp2_with fail
 refine (write_any m a A n k rs s V HTV.out.hn HTV.out.hr HTV.out.hg HTV.out.hx HTV.out.hm HTV.out.ha HTV.out.hk hs).mono ?_
 rintro e w1 ⟨CA, ck, PA, pk, cs, ks, pl, er, rfl, hsq, hsn, hwr, hb1⟩
 obtain ⟨rfl, rfl, rfl, rfl⟩ := wrR_one hwr HRR.out
 have hbx := below_box w1 #[.slice CA cs.length ck, .slice PA ks.length pk] 60
 have HBX := Lib.hid (below_next HBV.out (below_next hb1 hbx))
 have HX : Hid (Blk (w1.alloc (.cells #[.slice CA cs.length ck, .slice PA ks.length pk] 60)) w1.heap.size 60 #[.slice CA cs.length ck, .slice PA ks.length pk]) := Blk.new _ _ _
 have HZ := Lib.hid (HP0.out.2.1.keep (below_next hb1 hbx) HP0.out.2.1.lt)
 have HW1 := Lib.hid (WrAt.up (ck := ck) (pk := pk) ⟨hsq, hsn, rfl, rfl⟩ hbx)
 have HW2 := Lib.hid (HW.out.up HBX.out)
 have x0 := HX.out.cell 0
 have x1 := HX.out.cell 1
 have z0 := HZ.out.cell 0
 have z1 := HZ.out.cell 1
 simp only [List.getElem?_toArray, List.getElem?_cons_zero, List.getElem?_cons_succ] at x0 x1 z0 z1
 have hcl : cs.length < 2 ^ 40 := by have := HW.out.cl; omega
 have hkl : ks.length < 2 ^ 40 := by have := HW.out.pl; omega
 clear hsq hsn hwr hb1 hbx t0 t1 t2 HTV HT HW HRR HBV
 go_wp2_with fail
 refine (same6_any CA PA DA QA cs.length ck ks.length pk dn dk qn qk cs ks cs ks _ HW1.out HW2.out hcl hkl).mono ?_
 rintro e w2 ⟨rfl, hb2⟩
 have HB2 := Lib.hid (below_next HBX.out hb2)
 have he : (eqB cs cs && eqB ks ks) = true := by rw [eqB_refl rfl, eqB_refl rfl]; rfl
 rw [he]
 clear he hb2 HBX HW1 HW2 HX HZ x0 x1 z0 z1
 go_wp2_with fail
 go_ret
 exact ⟨rfl, HB2.out⟩
set_option maxRecDepth 10000 in
set_option maxHeartbeats 1000000 in
theorem refuses_any (m a : Int) (A : Option Addr) (n k : Nat) (rs : List Rule) (s : ByteArray) (pl0 : Nat) (er0 : Int) (w : World) (hT : TbAt m a A n k rs w) (hs : s.size < 2 ^ 36) (hR : WrR a rs (bytes s) [] [] pl0 er0) :
  Calls Try.prog 67 #[.agg #[.int .i64 m, .int .u8 a, .slice A n k], .string s, .int .i64 er0] w fun e w' => e = .returned (.int .i64 (pl0 : Nat)) ∧ Below w.heap.size w w' := by
 have HB := Lib.hid (below_box w #[.int .i64 m, .int .u8 a, .slice A n k] 30)
 have HTB := Lib.hid (Blk.new w #[.int .i64 m, .int .u8 a, .slice A n k] 30)
 have HT := Lib.hid hT
 have HRR := Lib.hid hR
 clear hT hR
 go_enter Try.func67, Try.ntmps67
 go_upto_region 1 with fail
 generalize w.alloc (.cells #[.int .i64 m, .int .u8 a, .slice A n k] 30) = V at *
 obtain ⟨p, hp⟩ : ∃ p, w.heap.size = p := ⟨_, rfl⟩
 rw [hp] at HTB
 simp only [hp]
 have HPW := Lib.hid hp
 clear hp
 have t0 := HTB.out.cell 0
 have t1 := HTB.out.cell 1
 have t2 := HTB.out.cell 2
 simp only [List.getElem?_toArray, List.getElem?_cons_zero, List.getElem?_cons_succ] at t0 t1 t2
 have HTV := Lib.hid (HT.out.up HB.out)
 go_wp2_with fail
 refine (write_any m a A n k rs s V HTV.out.hn HTV.out.hr HTV.out.hg HTV.out.hx HTV.out.hm HTV.out.ha HTV.out.hk hs).mono ?_
 rintro e w1 ⟨CA, ck, PA, pk, cs, ks, pl, er, rfl, hsq, hsn, hwr, hb1⟩
 obtain ⟨rfl, rfl, rfl, rfl⟩ := wrR_one hwr HRR.out
 have hbx := below_box w1 #[.slice CA 0 ck, .slice PA 0 pk] 60
 have HBX := Lib.hid (below_next HB.out (below_next hb1 hbx))
 have HX : Hid (Blk (w1.alloc (.cells #[.slice CA 0 ck, .slice PA 0 pk] 60)) w1.heap.size 60 #[.slice CA 0 ck, .slice PA 0 pk]) := Blk.new _ _ _
 have x0 := HX.out.cell 0
 have x1 := HX.out.cell 1
 simp only [List.getElem?_toArray, List.getElem?_cons_zero, List.getElem?_cons_succ] at x0 x1
 clear hsq hsn hwr hb1 hbx t0 t1 t2 HTV HT HRR HB
 have hee : (er != er) = false := by simp
 go_wp2_with fail
 go_ret
 exact ⟨rfl, HBX.out⟩
def Rule6End (s : ByteArray) (c r f t : Int) (w : World) (e : Ending) (w' : World) : Prop :=
 ∃ A k, e = .returned (.agg #[.string s, .slice A 1 k, .int .u8 63, .int .u8 r, .int .i64 f, .int .i64 t]) ∧ SeqC w' w.heap.size A [c] k ∧ Below w.heap.size w w'
theorem Made.rs6 {w : World} {lo n k : Nat} {A : Option Addr} {rs : List Rule} (h : Made w lo (.slice A n k) rs) : Rules w w.heap.size A rs := by
 obtain ⟨A', k', vals, e, ho, hr⟩ := h
 injection e with e1 e2 e3
 subst e1 e2 e3
 exact (hr.rules ho).1
set_option maxRecDepth 10000 in
set_option maxHeartbeats 400000 in
theorem rule6_any (s : ByteArray) (c r f t : Int) (hr : 0 ≤ r ∧ r < 256) (w : World) :
  Calls Try.prog 65 #[.string s, .int .u8 c, .agg #[.int .i64 r, .int .i64 f, .int .i64 t]] w (Rule6End s c r f t w) := by
 have c1 : IntKind.u8.wrap r = r := IntWalk.u8_in r (by omega)
 go_enter Try.func65, Try.ntmps65
 go_wp2
 refine bodyPost_ret (v := .agg #[.string s, .slice (some ⟨w.heap.size + 1 + 1, 0, none⟩) 1 1, .int .u8 63, .int .u8 r, .int .i64 f, .int .i64 t]) (by simp [results, Try.results65, go_sem]) rfl ⟨_, _, rfl, ?_, ?_⟩
 ·
  obtain ⟨A', k', e, hs⟩ := IsCells.new ((w.alloc (.cells #[.int .i64 r, .int .i64 f, .int .i64 t] 120)).alloc (.cells #[.string s, .slice (some ⟨w.heap.size + 1 + 1, 0, none⟩) 1 1, .int .u8 63, .int .u8 r, .int .i64 f, .int .i64 t] 99)) c
  simp only [World.size_alloc] at e hs
  injection e with e1 e2 e3
  subst e1 e3
  exact hs.less (by omega)
 ·
  exact (((Below.refl _ _).alloc (Nat.le_refl _) _).alloc (by simp) _).alloc (by simp; omega) _
def allL (n : Nat) : Nat → List (List Int)
 | 0 => [[]]
 | N + 1 => [] :: (List.range n).flatMap fun k : Nat => (allL n N).map fun r => (k : Int) :: r
theorem allL_mem {n : Nat} : ∀ (N : Nat) (ks : List Int), ks.length ≤ N → (∀ k ∈ ks, 0 ≤ k ∧ k < (n : Int)) → ks ∈ allL n N := by
 intro N
 induction N with
 | zero =>
  intro ks h _
  have e : ks = [] := List.eq_nil_of_length_eq_zero (by omega)
  subst e; simp [allL]
 | succ N ih =>
  intro ks h hk
  cases ks with
  | nil => simp [allL]
  | cons k r =>
   have h1 := hk k (List.mem_cons.2 (.inl rfl))
   have h2 := ih r (by simpa using h) fun x hx => hk x (List.mem_cons.2 (.inr hx))
   unfold allL
   refine List.mem_cons.2 (.inr (List.mem_flatMap.2 ⟨k.toNat, List.mem_range.2 (by omega), List.mem_map.2 ⟨r, h2, ?_⟩⟩))
   rw [show ((k.toNat : Nat) : Int) = k from by omega]
def gdB (a : Int) (rs : List Rule) (l : List Nat) (ks : List Int) : Bool := match goE (edgP rs l) (0, 0) ks with
 | none => false
 | some u => finP a l u
theorem gdB_iff {a : Int} {rs : List Rule} {l : List Nat} {ks : List Int} : gdB a rs l ks = true ↔ GdE (edgP rs l) (finP a l) (0, 0) ks := by
 unfold gdB GdE
 cases goE (edgP rs l) (0, 0) ks with
 | none => simp
 | some u => simp
def bestB (a : Int) (rs : List Rule) (l : List Nat) (ks : List Int) : Bool := gdB a rs l ks && (allL rs.length (cstE (cstR rs) ks)).all fun ls => !gdB a rs l ls || (decide (cstE (cstR rs) ks ≤ cstE (cstR rs) ls) && (decide (cstE (cstR rs) ks ≠ cstE (cstR rs) ls) || !lessL ls ks))
theorem go_nums {rs : List Rule} {l : List Nat} : ∀ (ks : List Int) (v u : Nat × Int), goE (edgP rs l) v ks = some u → ∀ k ∈ ks, 0 ≤ k ∧ k < (rs.length : Int) := by
 intro ks
 induction ks with
 | nil => intro v u _ k hk; cases hk
 | cons x r ih =>
  intro v u h k hk
  obtain ⟨y, h1, h2⟩ := goE_cons.1 h
  rcases List.mem_cons.1 hk with e | e
  ·
   obtain ⟨j, e2, hj, _⟩ := edgP_some h1
   rw [e, e2]; omega
  ·
   exact ih y u h2 k e
theorem best_of {m a : Int} {rs : List Rule} (hG : GoodL m a rs) {l : List Nat} {ks : List Int} (h : bestB a rs l ks = true) : BestE (edgP rs l) (cstR rs) (finP a l) (0, 0) ks := by
 unfold bestB at h
 rw [Bool.and_eq_true] at h
 refine ⟨gdB_iff.1 h.1, fun ls hl => ?_⟩
 rcases Nat.lt_or_ge (cstE (cstR rs) ks) (cstE (cstR rs) ls) with g | g
 ·
  exact ⟨by omega, fun e => by omega⟩
 ·
  obtain ⟨u, hu, _⟩ := id hl
  have h1 := len_le_cst hG ls _ _ hu
  have h2 := List.all_eq_true.1 h.2 ls (allL_mem _ ls (by omega) (go_nums ls _ _ hu))
  rw [gdB_iff.2 hl] at h2
  simp only [Bool.not_true, Bool.false_or, Bool.and_eq_true, decide_eq_true_eq, Bool.or_eq_true, Bool.not_eq_true'] at h2
  exact ⟨h2.1, fun e => h2.2.resolve_left (fun h3 => h3 e)⟩
def closedB (rs : List Rule) (l : List Nat) (S : List (Nat × Int)) : Bool := decide ((0, 0) ∈ S) && S.all fun v => (List.range rs.length).all fun k : Nat => match edgP rs l v (k : Int) with
 | none => true
 | some u => decide (u ∈ S)
theorem closed_met {rs : List Rule} {l : List Nat} {S : List (Nat × Int)} (h : closedB rs l S = true) {v : Nat × Int} (hv : MetP rs l v) : v ∈ S := by
 unfold closedB at h
 rw [Bool.and_eq_true, decide_eq_true_eq] at h
 refine met_all (P := fun v => v ∈ S) h.1 (fun v k u hv he => ?_) hv
 obtain ⟨j, rfl, hj, _⟩ := edgP_some he
 have h1 := List.all_eq_true.1 (List.all_eq_true.1 h.2 v hv) j (List.mem_range.2 hj)
 rw [he] at h1
 exact of_decide_eq_true h1
theorem none_of {a : Int} {rs : List Rule} {l : List Nat} {S : List (Nat × Int)} (h : closedB rs l S = true) (hF : (S.all fun v => !finP a l v) = true) : ∀ ls, ¬ GdE (edgP rs l) (finP a l) (0, 0) ls := fun ls ⟨u, h1, h2⟩ => by
 have h3 := List.all_eq_true.1 hF u (closed_met h ⟨ls, h1⟩)
 rw [h2] at h3
 cases h3
theorem top_of_closed {rs : List Rule} {l : List Nat} {S : List (Nat × Int)} {g : Nat} {mo : Int} {ks : List Int} (h : closedB rs l S = true) (hT : (S.all fun v => decide (v.1 ≤ g)) = true) (hg : goE (edgP rs l) (0, 0) ks = some (g, mo)) : TopP rs l g :=
 ⟨⟨mo, ks, hg⟩, fun v hv => of_decide_eq_true (List.all_eq_true.1 hT v (closed_met h hv))⟩
end Go.Proofs.Ytpkdlljefkbmpaa
