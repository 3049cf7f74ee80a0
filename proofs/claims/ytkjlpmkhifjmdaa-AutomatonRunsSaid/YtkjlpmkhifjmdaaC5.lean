/- Merged by program: Eq1 Md RRn Hd Lw5a Lw5 -/
import Derived.Test.YtkjlpmkhifjmdaaQ18
import Derived.Test.YtkjlpmkhifjmdaaQ17
import Derived.Test.YtkjlpmkhifjmdaaQ19
import Derived.Deep.RegionLaw
import Derived.Test.YtkjlpmkhifjmdaaQ13
import Derived.Test.YtkjlpmkhifjmdaaQ5
import Derived.Test.YtkjlpmkhifjmdaaQ20
import Derived.Test.YtkjlpmkhifjmdaaQ21
import Derived.Test.YtkjlpmkhifjmdaaQ15
import Derived.Test.YtkjlpmkhifjmdaaQ22
import Derived.ProofKit
import Derived.OpenShut

/-! law03's comparisons of lists, and the reference's of traces: what is equal is found so. -/
namespace Go.Proofs.Ytkjlpmkhifjmdaa
open Go.RowKit Go.Maps
set_option maxRecDepth 10000 in
set_option maxHeartbeats 1000000 in
theorem eqStates_any (A B : Option Addr) (n k l : Nat) (L : List St) (w : World) (hn : L.length = n) (hA : StAt w w.heap.size A L) (hB : StAt w w.heap.size B L) (hmax : n < 2 ^ 40) :
    Calls Try.prog 19 #[.slice A n k, .slice B n l] w fun e w' => e = .returned (.bool true) ∧ Below w.heap.size w w' := by
  have HA := Lib.hid hA
  have HB := Lib.hid hB
  have HN := Lib.hid hn
  clear hA hB hn
  go_enter Try.func19, Try.ntmps19
  go_wp2_with fail
  go_loopw [5] (fun x wr => ∃ j : Nat, x = .int .i64 j ∧ j ≤ n ∧ Below w.heap.size w wr) (fun x _ => n - (intOf x).toNat)
  case atStart => exact ⟨0, rfl, Nat.zero_le _, Below.refl _ _⟩
  case round =>
    obtain ⟨j, rfl, hj, hb⟩ := hrel
    by_cases hlt : j < n
    · have hjl : j < L.length := by have := HN.out; omega
      obtain ⟨b1, rfl, hb1, hc1⟩ := HA.out (by omega)
      obtain ⟨b2, rfl, hb2, hc2⟩ := HB.out (by omega)
      obtain ⟨p0, p1, p2⟩ := hc1 j hjl
      obtain ⟨q0, q1, q2⟩ := hc2 j hjl
      generalize L[j]'hjl = s at *
      obtain ⟨mo, la, ne⟩ := s
      dsimp only at p0 p1 p2 q0 q1 q2
      have c0 := (hb.cell (p := ⟨b1, j * 3, none⟩) hb1).trans p0
      have c1 := (hb.cell (p := ⟨b1, j * 3 + 1, none⟩) hb1).trans p1
      have c2 := (hb.cell (p := ⟨b1, j * 3 + 2, none⟩) hb1).trans p2
      have d0 := (hb.cell (p := ⟨b2, j * 3, none⟩) hb2).trans q0
      have d1 := (hb.cell (p := ⟨b2, j * 3 + 1, none⟩) hb2).trans q1
      have d2 := (hb.cell (p := ⟨b2, j * 3 + 2, none⟩) hb2).trans q2
      have HBW := Lib.hid hb
      have HL := Lib.hid hlt
      have hj0 : (0 : Int) ≤ (j : Int) := by omega
      have hjn : (j : Int) < (n : Int) := by omega
      clear p0 p1 p2 q0 q1 q2 hc1 hc2 hb
      go_upto_region 6 with fail
      go_region
      go_wp2_with fail
      exact ⟨⟨j + 1, by go_num, HL.out, HBW.out.drew⟩, by have := HL.out; simp [intOf]; omega⟩
    · have : j = n := by omega
      subst this
      have HBW := Lib.hid hb
      clear hb
      go_wp2_with fail
      go_ret
      exact ⟨rfl, HBW.out⟩
set_option maxRecDepth 10000 in
set_option maxHeartbeats 1000000 in
theorem eqBools_any (A B : Option Addr) (n k l : Nat) (R : List Bool) (w : World) (hn : R.length = n) (hA : BoolAt w w.heap.size A R) (hB : BoolAt w w.heap.size B R) (hmax : n < 2 ^ 40) :
    Calls Try.prog 22 #[.slice A n k, .slice B n l] w fun e w' => e = .returned (.bool true) ∧ Below w.heap.size w w' := by
  have HA := Lib.hid hA
  have HB := Lib.hid hB
  have HN := Lib.hid hn
  clear hA hB hn
  go_enter Try.func22, Try.ntmps22
  go_wp2_with fail
  go_loopw [5] (fun x wr => ∃ j : Nat, x = .int .i64 j ∧ j ≤ n ∧ Below w.heap.size w wr) (fun x _ => n - (intOf x).toNat)
  case atStart => exact ⟨0, rfl, Nat.zero_le _, Below.refl _ _⟩
  case round =>
    obtain ⟨j, rfl, hj, hb⟩ := hrel
    by_cases hlt : j < n
    · have hjl : j < R.length := by have := HN.out; omega
      obtain ⟨b1, rfl, hb1, hc1⟩ := HA.out (by omega)
      obtain ⟨b2, rfl, hb2, hc2⟩ := HB.out (by omega)
      have p0 := hc1 j hjl
      have q0 := hc2 j hjl
      generalize R[j]'hjl = v at *
      have c0 := (hb.cell (p := ⟨b1, j, none⟩) hb1).trans p0
      have d0 := (hb.cell (p := ⟨b2, j, none⟩) hb2).trans q0
      have HBW := Lib.hid hb
      have HL := Lib.hid hlt
      have hj0 : (0 : Int) ≤ (j : Int) := by omega
      have hjn : (j : Int) < (n : Int) := by omega
      clear p0 q0 hc1 hc2 hb
      go_upto_region 6 with fail
      go_region
      go_wp2_with fail
      exact ⟨⟨j + 1, by go_num, HL.out, HBW.out.drew⟩, by have := HL.out; simp [intOf]; omega⟩
    · have : j = n := by omega
      subst this
      have HBW := Lib.hid hb
      clear hb
      go_wp2_with fail
      go_ret
      exact ⟨rfl, HBW.out⟩
theorem eqB_same (xs : List Int) : eqB xs xs = true := by unfold eqB; simp
set_option maxRecDepth 10000 in
set_option maxHeartbeats 1000000 in
theorem same_any (p : ByteArray) (A B : Option Addr) (n k l : Nat) (xs : List Int) (at_ mo la ne : Int) (ok : Bool) (w : World) (hn : xs.length = n) (hA : Seq w w.heap.size A xs) (hB : Seq w w.heap.size B xs) (hmax : n < 2 ^ 40) :
    Calls Try.prog 16 #[.agg #[.string p, .slice A n k, .int .i64 at_, .int .i64 mo, .int .i64 la, .int .u8 ne, .bool ok], .agg #[.string p, .slice B n l, .int .i64 at_, .int .i64 mo, .int .i64 la, .int .u8 ne, .bool ok]] w fun e w' => e = .returned (.bool true) ∧ Below w.heap.size w w' := by
  have h0 := Blk.new w #[.string p, .slice A n k, .int .i64 at_, .int .i64 mo, .int .i64 la, .int .u8 ne, .bool ok] 41
  have b0 := below_box w #[.string p, .slice A n k, .int .i64 at_, .int .i64 mo, .int .i64 la, .int .u8 ne, .bool ok] 41
  have h1 := Blk.new (w.alloc (.cells #[.string p, .slice A n k, .int .i64 at_, .int .i64 mo, .int .i64 la, .int .u8 ne, .bool ok] 41)) #[.string p, .slice B n l, .int .i64 at_, .int .i64 mo, .int .i64 la, .int .u8 ne, .bool ok] 41
  have b1 := below_box (w.alloc (.cells #[.string p, .slice A n k, .int .i64 at_, .int .i64 mo, .int .i64 la, .int .u8 ne, .bool ok] 41)) #[.string p, .slice B n l, .int .i64 at_, .int .i64 mo, .int .i64 la, .int .u8 ne, .bool ok] 41
  simp only [World.size_alloc] at h1
  have H0 := Lib.hid (h0.box (vs := #[.string p, .slice B n l, .int .i64 at_, .int .i64 mo, .int .i64 la, .int .u8 ne, .bool ok]) (e := 41))
  have H1 := Lib.hid h1
  have HBB := Lib.hid (below_next b0 b1)
  clear h0 h1 b0 b1
  have HA := Lib.hid hA
  have HB := Lib.hid hB
  clear hA hB
  go_enter Try.func16, Try.ntmps16
  go_upto_region 1 with fail
  generalize (w.alloc (.cells #[.string p, .slice A n k, .int .i64 at_, .int .i64 mo, .int .i64 la, .int .u8 ne, .bool ok] 41)).alloc (.cells #[.string p, .slice B n l, .int .i64 at_, .int .i64 mo, .int .i64 la, .int .u8 ne, .bool ok] 41) = V at *
  obtain ⟨q, hq⟩ : ∃ q, w.heap.size = q := ⟨_, rfl⟩
  have HQ := Lib.hid hq
  rw [hq] at H0 H1
  simp only [hq]
  clear hq
  have c0 := H0.out.cell 0
  have c1 := H0.out.cell 1
  have d0 := H1.out.cell 0
  have d1 := H1.out.cell 1
  simp only [List.getElem?_toArray, List.getElem?_cons_zero, List.getElem?_cons_succ] at c0 c1 d0 d1
  have HA2 : Hid (Seq V V.heap.size A xs) := (HA.out.keep HBB.out).more HBB.out.size
  have HB2 : Hid (Seq V V.heap.size B xs) := (HB.out.keep HBB.out).more HBB.out.size
  go_wp2_with fail
  refine (sameCells_any A B n n k l xs xs V hn hn HA2.out HB2.out (by omega)).mono ?_
  rintro e w2 ⟨rfl, hb⟩
  rw [eqB_same]
  have G0 := Lib.hid (H0.out.keep hb H0.out.lt)
  have G1 := Lib.hid (H1.out.keep hb H1.out.lt)
  have HE := Lib.hid (below_next HBB.out hb)
  clear hb c0 c1 d0 d1 H0 H1 HBB HA2 HB2
  have c2 := G0.out.cell 2
  have c3 := G0.out.cell 3
  have c4 := G0.out.cell 4
  have c5 := G0.out.cell 5
  have c6 := G0.out.cell 6
  have d2 := G1.out.cell 2
  have d3 := G1.out.cell 3
  have d4 := G1.out.cell 4
  have d5 := G1.out.cell 5
  have d6 := G1.out.cell 6
  simp only [List.getElem?_toArray, List.getElem?_cons_zero, List.getElem?_cons_succ] at c2 c3 c4 c5 c6 d2 d3 d4 d5 d6
  go_wp2_with fail
  go_ret
  exact ⟨rfl, HE.out⟩
end Go.Proofs.Ytkjlpmkhifjmdaa

/-! Drawn regions that make a state's block and store a state into it, whatever else they compute: what each operation gives, as a list of values. -/
namespace Go.Proofs.Ytkjlpmkhifjmdaa
open Go.RowKit
def phiG (V : World) (L : List Value) (ia i : Nat) (v : Value) (w : World) : Prop := if i = ia then ∃ g, v = .pointer (some ⟨g, 0, none⟩) ∧ V.heap.size ≤ g ∧ ∃ a b c, Blk w g 26 #[a, b, c] else match L[i]? with
  | some u => v = u
  | none => True
theorem phiG_keep {V w w' : World} {L : List Value} {ia i : Nat} {v : Value} (hw : ∀ g a b c, V.heap.size ≤ g → Blk w g 26 #[a, b, c] → ∃ a b c, Blk w' g 26 #[a, b, c]) (h : phiG V L ia i v w) : phiG V L ia i v w' := by
  unfold phiG at h ⊢
  split
  · rename_i e
    rw [if_pos e] at h
    obtain ⟨g, e1, hg, a, b, c, hB⟩ := h
    exact ⟨g, e1, hg, hw g a b c hg hB⟩
  · rename_i e
    rw [if_neg e] at h
    exact h
theorem phiG_below {V w w' : World} {L : List Value} {ia i : Nat} {v : Value} (hb : Below w.heap.size w w') (h : phiG V L ia i v w) : phiG V L ia i v w' :=
  phiG_keep (fun _ a b c _ h => ⟨a, b, c, h.keep hb h.lt⟩) h
theorem phiG_store {V w : World} {L : List Value} {ia i g : Nat} {v a b c : Value} (h : phiG V L ia i v w) : phiG V L ia i v (((w.setCell ⟨g, 0, none⟩ a).setCell ⟨g, 1, none⟩ b).setCell ⟨g, 2, none⟩ c) := by
  refine phiG_keep (fun g' x y z _ hc => ?_) h
  by_cases hgg : g' = g
  · subst hgg
    exact ⟨_, _, _, ((hc.set 0 a).set 1 b).set 2 c⟩
  · exact ⟨x, y, z, ((Below.heap_setCell _ _ _ _ hgg).trans ((Below.heap_setCell _ _ _ _ hgg).trans (Below.heap_setCell _ _ _ _ hgg))).trans hc⟩
/-- The memory while the region runs; the state lies there once it is stored. -/
def stG (V : World) (s : St) (ia is : Nat) (b : Nat → Bool) (y : Nat → Value) (w : World) : Prop :=
  Below V.heap.size V w ∧ (b is = true → b ia = true ∧ ∃ g, y ia = .pointer (some ⟨g, 0, none⟩) ∧ V.heap.size ≤ g ∧ Blk w g 26 #[.int .i64 s.mode, .int .i64 s.last, .int .u8 s.need])
theorem stG_same {V w w' : World} {s : St} {ia is : Nat} {b : Nat → Bool} {y : Nat → Value} {i : Nat} {v : Value} (h : stG V s ia is b y w) (hi : i ≠ ia ∧ i ≠ is) (hb : Below w.heap.size w w') : stG V s ia is (fun j => if j = i then true else b j) (upd y i v) w' := by
  refine ⟨h.1.trans (hb.mono h.1.size), fun h7 => ?_⟩
  have h7' : b is = true := by simpa [Ne.symm hi.2] using h7
  obtain ⟨h6, g, e, hg, hB⟩ := h.2 h7'
  refine ⟨by simp [h6], g, ?_, hg, hB.keep hb hB.lt⟩
  unfold upd; rw [if_neg (Ne.symm hi.1)]; exact e
theorem stG_alloc {V w : World} {s : St} {ia is : Nat} {b : Nat → Bool} {y : Nat → Value} {v : Value} (h : stG V s ia is b y w) (hne : is ≠ ia) (hb : b ia = false) (o : Obj) : stG V s ia is (fun j => if j = ia then true else b j) (upd y ia v) (w.alloc o) := by
  refine ⟨h.1.alloc h.1.size _, fun h7 => ?_⟩
  have h7' : b is = true := by simpa [hne] using h7
  have := (h.2 h7').1
  rw [hb] at this; cases this
theorem stG_store {V w : World} {s : St} {ia is : Nat} {b : Nat → Bool} {y : Nat → Value} {v a a2 a3 : Value} {g : Nat} (h : stG V s ia is b y w) (hne : is ≠ ia) (hb : b ia = true) (e : y ia = .pointer (some ⟨g, 0, none⟩)) (hg : V.heap.size ≤ g) (hB : Blk w g 26 #[a, a2, a3]) :
    stG V s ia is (fun j => if j = is then true else b j) (upd y is v) (((w.setCell ⟨g, 0, none⟩ (.int .i64 s.mode)).setCell ⟨g, 1, none⟩ (.int .i64 s.last)).setCell ⟨g, 2, none⟩ (.int .u8 s.need)) := by
  refine ⟨((h.1.setCell hg _).setCell hg _).setCell hg _, fun _ => ⟨by simp [hb], g, ?_, hg, ((hB.set 0 _).set 1 _).set 2 _⟩⟩
  unfold upd; rw [if_neg (Ne.symm hne)]; exact e
end Go.Proofs.Ytkjlpmkhifjmdaa

/-! The reference's Run. -/
namespace Go.Proofs.Ytkjlpmkhifjmdaa
open Go.RowKit Go.Maps
/-- Where the memory stands when some rules have been applied: the result is a variable. -/
structure RB (w0 : World) (p c : Nat) (m a : Int) (A : Option Addr) (n k : Nat) (wr : World) (t : R0) (cv : Value) : Prop where
  ht : Blk wr p 31 #[.int .i64 m, .int .u8 a, .slice A n k]
  hz : Blk wr (p + 1) 41 #[.string ⟨#[]⟩, .slice none 0 0, .int .i64 0, .int .i64 0, .int .i64 0, .int .u8 0, .bool false]
  ho : Blk wr c 41 #[.string (strOf t.p), cv, .int .i64 (t.n : Nat), .int .i64 t.st.mode, .int .i64 t.st.last, .int .u8 t.st.need, .bool false]
  hc : wr.ownsRow (c + 1) 64 1 cv t.c.length (t.c.map (Value.int .u8))
  hb : Below p w0 wr
  hpc : p + 2 ≤ c
theorem RB.below {w0 : World} {p c : Nat} {m a : Int} {A : Option Addr} {n k : Nat} {wr w' : World} {t : R0} {cv : Value} (h : RB w0 p c m a A n k wr t cv) (hb : Below wr.heap.size wr w') : RB w0 p c m a A n k w' t cv :=
  ⟨h.ht.keep hb h.ht.lt, h.hz.keep hb h.hz.lt, h.ho.keep hb h.ho.lt, own_keep h.hc hb, h.hb.trans (hb.mono (by have := h.ht.lt; omega)), h.hpc⟩
theorem RB.drew {w0 : World} {p c : Nat} {m a : Int} {A : Option Addr} {n k : Nat} {wr : World} {t : R0} {cv : Value} (h : RB w0 p c m a A n k wr t cv) : RB w0 p c m a A n k wr.drew t cv := ⟨h.ht, h.hz, h.ho, h.hc, h.hb.drew, h.hpc⟩
/-- Only the result's block has changed. -/
theorem RB.put {w0 : World} {p c : Nat} {m a : Int} {A : Option Addr} {n k : Nat} {wr w' : World} {t : R0} {cv : Value} (h : RB w0 p c m a A n k wr t cv) (t' : R0) (hk : ∀ b, b ≠ c → w'.heap[b]? = wr.heap[b]?) (hct : t'.c = t.c)
    (ho : Blk w' c 41 #[.string (strOf t'.p), cv, .int .i64 (t'.n : Nat), .int .i64 t'.st.mode, .int .i64 t'.st.last, .int .u8 t'.st.need, .bool false]) (hb : Below p w0 w') : RB w0 p c m a A n k w' t' cv := by
  have hpc := h.hpc
  refine ⟨(hk p (by omega)).trans h.ht, (hk _ (by omega)).trans h.hz, ho, ?_, hb, hpc⟩
  rw [hct]
  exact own_move h.hc fun b hb => hk b (by have := (h.hc.lt b hb).1; omega)
/-- The cells have grown. -/
theorem RB.cells {w0 : World} {p c : Nat} {m a : Int} {A : Option Addr} {n k : Nat} {wr w' : World} {t : R0} {cv v : Value} {q : List Int} (h : RB w0 p c m a A n k wr t cv) (ho : w'.ownsRow (c + 1) 64 1 v (t.c.length + q.length) (t.c.map (Value.int .u8) ++ q.map (Value.int .u8))) (hg : wr.grownBy w' cv.ownBlock) : RB w0 p c m a A n k (w'.setCell ⟨c, 1, none⟩ v) ⟨t.p, t.c ++ q, t.n, t.st⟩ v := by
  have hpc := h.hpc
  have hc1 : Blk w' c 41 _ := Blk.row h.hc hg h.ho (by decide)
  have key : ∀ b, b ≠ c → (w'.setCell ⟨c, 1, none⟩ v).heap[b]? = w'.heap[b]? := fun b hb => Below.heap_setCell _ ⟨c, 1, none⟩ _ b hb
  refine ⟨(key p (by omega)).trans (Blk.row h.hc hg h.ht (by decide)), (key _ (by omega)).trans (Blk.row h.hc hg h.hz (by decide)), hc1.set 1 v, ?_, ?_, hpc⟩
  · rw [List.map_append, List.length_append]
    exact own_move ho fun b hb => key b (by have := (ho.lt b hb).1; omega)
  · exact (h.hb.grown hg (by have := h.ht.lt; omega) (fun g hg' => by have := (h.hc.lt g hg').1; omega)).setCell (by show p ≤ c; omega) _
theorem strOf_app (l : List Int) (s : ByteArray) : strOf (l ++ (bytes s).map fun b : Nat => (b : Int)) = strOf l ++ s := by
  apply ByteArray.ext
  rw [ByteArray.data_append]
  apply Array.ext'
  rw [Array.toList_append]
  unfold strOf bytes
  show (l ++ _).map _ = _
  rw [List.map_append, List.map_map, List.map_map]
  congr 1
  conv => rhs; rw [← List.map_id s.data.toList]
  refine List.map_congr_left fun b _ => ?_
  show UInt8.ofNat ((b.toNat : Int)).toNat = b
  rw [Int.toNat_natCast]
  exact UInt8.ofNat_toNat
theorem rules_at {w : World} {B b o : Nat} {rs : List Rule} (h : Rules w B (some ⟨b, o, none⟩) rs) {j : Nat} (hj : j < rs.length) : b < B ∧ RuleAt w B b (o + j * 6) rs[j] := by
  obtain ⟨b', o', e, hb, hc⟩ := h (by omega)
  have e1 : b = b' := by injection e with e; injection e
  have e2 : o = o' := by injection e with e; injection e
  rw [e1, e2]
  exact ⟨hb, hc j hj⟩
set_option maxRecDepth 10000 in
set_option maxHeartbeats 4000000 in
theorem rRun_any (m a : Int) (A : Option Addr) (n k : Nat) (rs : List Rule) (PA : Option Addr) (pn pk : Nat) (ks : List Int) (w : World) (hn : rs.length = n) (hR : Rules w w.heap.size A rs) (hG : GoodL m a rs) (hmax : n ≤ 64) (hm : 1 ≤ m ∧ m ≤ 8) (ha : 0 ≤ a ∧ a < 256) (hks : ks.length = pn) (hP : SeqN w w.heap.size PA ks) (hpm : pn ≤ 1000000) :
    Calls Try.prog 18 #[.agg #[.int .i64 m, .int .u8 a, .slice A n k], .slice PA pn pk] w (RunEnd a rs ks w) := by
  have HP0 := Lib.hid (run_pre w m a A n k #[.string ⟨#[]⟩, .slice none 0 0, .int .i64 0, .int .i64 0, .int .i64 0, .int .u8 0, .bool false])
  have HR := Lib.hid hR
  have HN := Lib.hid hn
  have HG := Lib.hid hG
  have HFT := Lib.hid hR.fit
  have HKS := Lib.hid hks
  have HPA := Lib.hid hP
  have HAC := Lib.hid (good_acc hG ha)
  clear hR hn hG hks hP
  go_enter Try.func18, Try.ntmps18
  go_wp2_with fail
  generalize (w.alloc (.cells #[.int .i64 m, .int .u8 a, .slice A n k] 31)).alloc (.cells #[.string ⟨#[]⟩, .slice none 0 0, .int .i64 0, .int .i64 0, .int .i64 0, .int .u8 0, .bool false] 41) = V at *
  obtain ⟨p, hp⟩ : ∃ p, w.heap.size = p := ⟨_, rfl⟩
  rw [hp] at HP0 HR HPA
  simp only [hp]
  have HW := Lib.hid hp
  clear hp
  refine (rStart_any V).mono ?_
  rintro e w1 ⟨rfl, hb1⟩
  rw [show St.start.val = .agg #[.int .i64 0, .int .i64 0, .int .u8 63] from rfl]
  have HV2 : Hid (RB w p w1.heap.size m a A n k (w1.alloc (.cells #[.string ⟨#[]⟩, .slice none 0 0, .int .i64 0, .int .i64 0, .int .i64 0, .int .u8 63, .bool false] 41)) ⟨[], [], 0, St.start⟩ (.slice none 0 0)) := by
    have hs1 := hb1.size
    have hv := HP0.out.2.2.2
    refine ⟨(HP0.out.1.keep hb1 HP0.out.1.lt).box, (HP0.out.2.1.keep hb1 HP0.out.2.1.lt).box, Blk.new _ _ _, World.ownsRow_nil _ _ _ _, ?_, by omega⟩
    exact (HP0.out.2.2.1.trans (hb1.mono (by omega))).alloc (by omega) _
  clear hb1 HP0
  go_upto_region 2 with fail
  generalize w1.alloc (.cells #[.string ⟨#[]⟩, .slice none 0 0, .int .i64 0, .int .i64 0, .int .i64 0, .int .u8 63, .bool false] 41) = V2 at *
  obtain ⟨c, hc⟩ : ∃ c, w1.heap.size = c := ⟨_, rfl⟩
  rw [hc] at HV2
  simp only [hc]
  clear hc
  go_wp2_with fail
  go_loopw [6] (fun x wr => ∃ (j : Nat) (t : R0) (cv : Value), x = .int .i64 j ∧ j ≤ pn ∧ t.small j m ∧ runGo rs (ks.drop j) t = runT rs ks ∧ RB w p c m a A n k wr t cv) (fun x _ => pn - (intOf x).toNat)
  case atStart => exact ⟨0, _, _, rfl, Nat.zero_le _, ⟨by simp, by simp, rfl, start_ok hm.1⟩, rfl, HV2.out⟩
  case round =>
    clear HV2
    obtain ⟨j, t, cv, rfl, hj, hsm, hgo, hra⟩ := hrel
    have HRA := Lib.hid hra
    have HSM := Lib.hid hsm
    have t0 := hra.ht.cell 0
    have t1 := hra.ht.cell 1
    have t2 := hra.ht.cell 2
    have c3 := hra.ho.cell 3
    have c4 := hra.ho.cell 4
    have c5 := hra.ho.cell 5
    simp only [List.getElem?_toArray, List.getElem?_cons_zero, List.getElem?_cons_succ] at t0 t1 t2 c3 c4 c5
    by_cases hlt : j < pn
    · have hjl : j < ks.length := by have := HKS.out; omega
      obtain ⟨bk, ok, rfl, hbk, hck⟩ := HPA.out (by omega)
      have d0 := (hra.hb.cell (p := ⟨bk, ok + j, none⟩) (by show bk < _; omega)).trans (hck j hjl)
      have hbk2 : bk < wr.heap.size := by have := hra.ht.lt; omega
      have HDR : Hid (ks.drop j = ks[j]'hjl :: ks.drop (j + 1)) := List.drop_eq_getElem_cons hjl
      have hgo2 := hgo
      rw [HDR.out] at hgo2
      have DK := Lib.hid (hck j hjl)
      clear hck
      generalize ks[j]'hjl = kv at *
      obtain ⟨sr, hsr⟩ : ∃ sr, stepS rs t.st kv = sr := ⟨_, rfl⟩
      have hGO : Hid ((if sr.2 then runGo rs (ks.drop (j + 1)) (t.add (ruleOf rs kv) sr.1) else t) = runT rs ks) := by
        unfold Hid; rw [← hgo2, ← hsr]; rfl
      have HSR := Lib.hid hsr
      have HL := Lib.hid hlt
      have hj0 : (0 : Int) ≤ (j : Int) := by omega
      have hjn : (j : Int) < (pn : Int) := by omega
      have hRw : Rules wr wr.heap.size A rs := (HR.out.keep hra.hb).more (by have := hra.hb.size; have := HW.out; omega)
      have HRW := Lib.hid hRw
      have hpl := hra.ht.lt
      have hcl := hra.ho.lt
      have HSF := Lib.hid (hsm.2.2.2.fit hm.2)
      clear hra hsm hsr hgo hgo2 hRw
      obtain ⟨⟨ta, tb, tc⟩, okb⟩ := sr
      go_upto_region 5 with fail
      refine wp_region_mid2 13 0 (by kernel_rfl) (fun y => (Value.agg #[Value.int IntKind.i64 m, Value.int IntKind.u8 a, Value.slice A n k]) :: (Value.slice (some ⟨bk, ok, none⟩) pn pk) :: (Value.pointer (some ⟨p, 0, none⟩)) :: undef :: (Value.pointer (some ⟨p + 1, 0, none⟩)) :: (Value.pointer (some ⟨c, 0, none⟩)) :: (Value.int IntKind.i64 ↑j) :: y 11 :: u8 :: (Value.agg #[Value.int IntKind.i64 0, Value.int IntKind.i64 0, Value.int IntKind.u8 63]) :: (Value.agg #[Value.string ⟨#[]⟩, Value.slice none 0 0, Value.int IntKind.i64 0, Value.int IntKind.i64 0, Value.int IntKind.i64 0, Value.int IntKind.u8 63, Value.bool false]) :: (Value.int IntKind.i64 ↑j) :: (Value.slice (some ⟨bk, ok, none⟩) pn pk) :: (Value.int IntKind.i64 ↑pn) :: (Value.bool true) :: u15 :: u16 :: y 8 :: y 0 :: y 1 :: y 2 :: y 3 :: y 4 :: y 5 :: y 6 :: y 7 :: y 9 :: y 10 :: u28 :: u29 :: u30 :: u31 :: u32 :: u33 :: u34 :: u35 :: u36 :: u37 :: u38 :: u39 :: u40 :: u41 :: u42 :: u43 :: u44 :: u45 :: u46 :: u47 :: u48 :: u49 :: u50 :: u51 :: u52 :: u53 :: u54 :: u55 :: u56 :: u57 :: u58 :: u59 :: u60 :: u61 :: u62 :: undef :: undef :: undef :: undef :: undef :: undef :: []) (stG wr (⟨ta, tb, tc⟩ : St) 11 12) (phiG wr [(.agg #[.int .i64 m, .int .u8 a, .slice A n k]), (.pointer (some ⟨c, 3, none⟩)), (.agg #[.int .i64 t.st.mode, .int .i64 t.st.last, .int .u8 t.st.need]), (.slice (some ⟨bk, ok, none⟩) pn pk), (.int .i64 j), (.pointer (some ⟨bk, ok + j, none⟩)), (.int .i64 kv), (.tuple #[(⟨ta, tb, tc⟩ : St).val, .bool okb]), (.tuple #[(⟨ta, tb, tc⟩ : St).val, .bool okb]), ((⟨ta, tb, tc⟩ : St).val), (.bool okb), undef] 11) (fun i => match i with | 0 => u18 | 1 => u19 | 2 => u20 | 3 => u21 | 4 => u22 | 5 => u23 | 6 => u24 | 7 => u25 | 8 => u17 | 9 => u26 | 10 => u27 | 11 => u7 | _ => undef)
        (by kernel_rfl) (by kernel_rfl) (by kernel_rfl) (by kernel_rfl) ?_ [0, 1, 2, 3, 4, 5, 6, 7, 8, 9, 10, 11, 12] (by kernel_rfl) ?_ ?_
      · exact ⟨(Below.refl _ _).drew, fun h => by cases h⟩
      · refine allCons ?_ (allCons ?_ (allCons ?_ (allCons ?_ (allCons ?_ (allCons ?_ (allCons ?_ (allCons ?_ (allCons ?_ (allCons ?_ (allCons ?_ (allCons ?_ (allCons ?_ (allNil)))))))))))))
        all_goals intro bl y w10 K3 hbi hS hd hK3
        · have q0 := (hS.1.cell (p := ⟨p, 0, none⟩) hpl).trans t0
          have q1 := (hS.1.cell (p := ⟨p, 1, none⟩) hpl).trans t1
          have q2 := (hS.1.cell (p := ⟨p, 2, none⟩) hpl).trans t2
          refine wpOp_step rfl (fun K2 hK2 => ?_)
          go_simp
          exact hK2 _ _ (hK3 _ _ (stG_same hS (by decide) (Below.refl _ _)) rfl (fun _ _ h => h))
        · refine wpOp_step rfl (fun K2 hK2 => ?_)
          go_simp
          exact hK2 _ _ (hK3 _ _ (stG_same hS (by decide) (Below.refl _ _)) rfl (fun _ _ h => h))
        · have e1 : y 1 = _ := (hd 1 rfl).2
          obtain ⟨y, rfl⟩ := upd_at (y := y) (i := 1) e1
          dsimp [upd]
          have q3 := (hS.1.cell (p := ⟨c, 3, none⟩) hcl).trans c3
          have q4 := (hS.1.cell (p := ⟨c, 4, none⟩) hcl).trans c4
          have q5 := (hS.1.cell (p := ⟨c, 5, none⟩) hcl).trans c5
          refine wpOp_step rfl (fun K2 hK2 => ?_)
          go_simp
          exact hK2 _ _ (hK3 _ _ (stG_same hS (by decide) (Below.refl _ _)) rfl (fun _ _ h => h))
        · refine wpOp_step rfl (fun K2 hK2 => ?_)
          go_simp
          exact hK2 _ _ (hK3 _ _ (stG_same hS (by decide) (Below.refl _ _)) rfl (fun _ _ h => h))
        · refine wpOp_step rfl (fun K2 hK2 => ?_)
          go_simp
          exact hK2 _ _ (hK3 _ _ (stG_same hS (by decide) (Below.refl _ _)) rfl (fun _ _ h => h))
        · have e3 : y 3 = _ := (hd 3 rfl).2
          have e4 : y 4 = _ := (hd 4 rfl).2
          obtain ⟨y, rfl⟩ := upd_at (y := y) (i := 3) e3
          obtain ⟨y, rfl⟩ := upd_at (y := y) (i := 4) e4
          dsimp [upd]
          refine wpOp_step rfl (fun K2 hK2 => ?_)
          go_simp
          exact hK2 _ _ (hK3 _ _ (stG_same hS (by decide) (Below.refl _ _)) rfl (fun _ _ h => h))
        · have e5 : y 5 = _ := (hd 5 rfl).2
          obtain ⟨y, rfl⟩ := upd_at (y := y) (i := 5) e5
          dsimp [upd]
          have q0 := (hS.1.cell (p := ⟨bk, ok + j, none⟩) hbk2).trans d0
          refine wpOp_step rfl (fun K2 hK2 => ?_)
          go_simp
          exact hK2 _ _ (hK3 _ _ (stG_same hS (by decide) (Below.refl _ _)) rfl (fun _ _ h => h))
        · have e0 : y 0 = _ := (hd 0 rfl).2
          have e2 : y 2 = _ := (hd 2 rfl).2
          have e6 : y 6 = _ := (hd 6 rfl).2
          obtain ⟨y, rfl⟩ := upd_at (y := y) (i := 0) e0
          obtain ⟨y, rfl⟩ := upd_at (y := y) (i := 2) e2
          obtain ⟨y, rfl⟩ := upd_at (y := y) (i := 6) e6
          dsimp [upd]
          refine wpOp_step rfl (fun K2 hK2 => ?_)
          go_simp
          refine (rStep_any m a A n k rs t.st kv HN.out HSF.out (by omega) w10 (HRW.out.up hS.1)).mono ?_
          rw [HSR.out]
          rintro e' w2 ⟨rfl, hb⟩
          exact hK2 _ _ (hK3 _ _ (stG_same hS (by decide) hb) rfl (fun _ _ h => phiG_below hb h))
        · have e7 : y 7 = _ := (hd 7 rfl).2
          obtain ⟨y, rfl⟩ := upd_at (y := y) (i := 7) e7
          dsimp [upd]
          refine wpOp_step rfl (fun K2 hK2 => ?_)
          go_simp
          exact hK2 _ _ (hK3 _ _ (stG_same hS (by decide) (Below.refl _ _)) rfl (fun _ _ h => h))
        · have e8 : y 8 = _ := (hd 8 rfl).2
          obtain ⟨y, rfl⟩ := upd_at (y := y) (i := 8) e8
          dsimp [upd]
          refine wpOp_step rfl (fun K2 hK2 => ?_)
          go_simp
          exact hK2 _ _ (hK3 _ _ (stG_same hS (by decide) (Below.refl _ _)) rfl (fun _ _ h => h))
        · have e8 : y 8 = _ := (hd 8 rfl).2
          obtain ⟨y, rfl⟩ := upd_at (y := y) (i := 8) e8
          dsimp [upd]
          refine wpOp_step rfl (fun K2 hK2 => ?_)
          go_simp
          exact hK2 _ _ (hK3 _ _ (stG_same hS (by decide) (Below.refl _ _)) rfl (fun _ _ h => h))
        · refine wpOp_step rfl (fun K2 hK2 => ?_)
          go_simp
          exact hK2 _ _ (hK3 _ _ (stG_alloc hS (by decide) hbi _) ⟨_, rfl, hS.1.size, _, _, _, Blk.new _ _ _⟩ (fun _ _ h => phiG_below (below_box _ _ _) h))
        · have e9 : y 9 = .agg #[.int .i64 (⟨ta, tb, tc⟩ : St).mode, .int .i64 (⟨ta, tb, tc⟩ : St).last, .int .u8 (⟨ta, tb, tc⟩ : St).need] := (hd 9 rfl).2
          obtain ⟨hb10, g, e10, hg, za, zb, zc, hB⟩ := hd 11 rfl
          have hS2 := stG_store (v := undef) hS (by decide) hb10 e10 hg hB
          obtain ⟨y, rfl⟩ := upd_at (y := y) (i := 9) e9
          obtain ⟨y, rfl⟩ := upd_at (y := y) (i := 11) e10
          dsimp [upd]
          have d0 := hB.cell 0
          have d1 := hB.cell 1
          have d2 := hB.cell 2
          have f0 := hB.free 0
          have f1 := hB.free 1
          have f2 := hB.free 2
          simp only [List.getElem?_toArray, List.getElem?_cons_zero, List.getElem?_cons_succ] at d0 d1 d2
          refine wpOp_step rfl (fun K2 hK2 => ?_)
          go_simp
          exact hK2 _ _ (hK3 undef _ hS2 trivial (fun _ _ hφ => phiG_store hφ))
      · intro bl y w10 f hall hS hd
        obtain ⟨_, g10, e10, hg10, hB10⟩ := hS.2 (hall 12 (by decide))
        have hb10 := hS.1
        have e10' : y 10 = _ := hd 10 (by decide)
        clear hd hall hS
        obtain ⟨y, rfl⟩ := upd_at (y := y) (i := 10) e10'
        obtain ⟨y, rfl⟩ := upd_at (y := y) (i := 11) e10
        dsimp [upd]
        refine wpAny_one (i := 13) (by kernel_rfl) ?_
        refine wpOp_step rfl (fun K2 hK2 => ?_)
        go_simp
        refine hK2 _ _ ?_
        clear hK2 K2 e10' e10
        refine wpAny_done (by kernel_rfl) ?_ _
        have HR10 := Lib.hid (HRA.out.below hb10)
        have HRW10 := Lib.hid (HRW.out.up hb10)
        have HD10 := Lib.hid hB10
        clear hb10 hB10 hg10 HRA HRW t0 t1 t2 c3 c4 c5 d0
        cases okb with
        | false =>
          have HF : Hid (t = runT rs ks) := by unfold Hid; have := hGO.out; simpa using this
          have hnj := HSM.out.2.2.1
          clear hGO
          obtain ⟨CA, ck, rfl⟩ := own_shape HR10.out.hc
          have o0 := HR10.out.ho.cell 0
          have o1 := HR10.out.ho.cell 1
          have o2 := HR10.out.ho.cell 2
          have o3 := HR10.out.ho.cell 3
          have o4 := HR10.out.ho.cell 4
          have o5 := HR10.out.ho.cell 5
          have o6 := HR10.out.ho.cell 6
          have z0 := HR10.out.hz.cell 0
          have z1 := HR10.out.hz.cell 1
          have z2 := HR10.out.hz.cell 2
          have z3 := HR10.out.hz.cell 3
          have z4 := HR10.out.hz.cell 4
          have z5 := HR10.out.hz.cell 5
          have z6 := HR10.out.hz.cell 6
          have f0 := HR10.out.hz.free 0
          have f1 := HR10.out.hz.free 1
          have f2 := HR10.out.hz.free 2
          have f3 := HR10.out.hz.free 3
          have f4 := HR10.out.hz.free 4
          have f5 := HR10.out.hz.free 5
          have f6 := HR10.out.hz.free 6
          simp only [List.getElem?_toArray, List.getElem?_cons_zero, List.getElem?_cons_succ] at o0 o1 o2 o3 o4 o5 o6 z0 z1 z2 z3 z4 z5 z6
          have HNJ : Hid (t.n < pn) := by unfold Hid; omega
          clear hnj
          go_wp2_with fail
          have hq := ((((((HR10.out.hz.set 0 (.string (strOf t.p))).set 1 (.slice CA t.c.length ck)).set 2 (.int .i64 (t.n : Nat))).set 3 (.int .i64 t.st.mode)).set 4 (.int .i64 t.st.last)).set 5 (.int .u8 t.st.need)).set 6 (.bool false)
          have hout := trace_out HR10.out.hz (own_seqT HR10.out.hc) HR10.out.hb (Nat.le_succ p) (.string (strOf t.p)) (.slice CA t.c.length ck) (.int .i64 (t.n : Nat)) (.int .i64 t.st.mode) (.int .i64 t.st.last) (.int .u8 t.st.need) (.bool false)
          clear z0 z1 z2 z3 z4 z5 z6 f0 f1 f2 f3 f4 f5 f6 o0 o1 o2 o3 o4 o5 o6
          refine bodyPost_ret (v := .agg #[.string (strOf t.p), .slice CA t.c.length ck, .int .i64 (t.n : Nat), .int .i64 t.st.mode, .int .i64 t.st.last, .int .u8 t.st.need, .bool false]) ?_ rfl ⟨CA, ck, ?_, ?_, ?_⟩
          · have y0 := hq.cell 0
            have y1 := hq.cell 1
            have y2 := hq.cell 2
            have y3 := hq.cell 3
            have y4 := hq.cell 4
            have y5 := hq.cell 5
            have y6 := hq.cell 6
            simp [results, Try.results18, go_sem, y0, y1, y2, y3, y4, y5, y6]
          · have hok : runOk a rs ks = false := by
              unfold runOk
              rw [← HF.out, decide_eq_false (by rw [HKS.out]; have := HNJ.out; omega)]; rfl
            rw [hok, ← HF.out]
          · rw [← HF.out]; exact hout.1
          · rw [HW.out]; exact hout.2
        | true =>
          obtain ⟨jj, rfl, hjj, hxe⟩ := step_at (rs := rs) (s := t.st) (k := kv) (by rw [HSR.out])
          have hok2 : St.ok ⟨ta, tb, tc⟩ m := by
            have h := step_ok HG.out HFT.out HSM.out.2.2.2 (k := (jj : Int)) (by rw [HSR.out])
            rw [HSR.out] at h; exact h
          have HGO2 : Hid (runGo rs (ks.drop (j + 1)) (t.add rs[jj] ⟨ta, tb, tc⟩) = runT rs ks) := by unfold Hid; have := hGO.out; rw [hxe] at this; simpa using this
          have hxm := List.getElem_mem hjj
          obtain ⟨z1, z2, z3⟩ := sound_sizes HG.out hxm
          obtain ⟨b, o, rfl, hB, hcc⟩ := HRW10.out (by omega)
          obtain ⟨A8, k8, e0, _⟩ := hcc jj hjj
          have HOK2 := Lib.hid hok2
          have d0 := (HR10.out.hb.cell (p := ⟨bk, ok + j, none⟩) (by show bk < _; omega)).trans DK.out
          have t2 := HR10.out.ht.cell 2
          have o0 := HR10.out.ho.cell 0
          have f0 := HR10.out.ho.free 0
          simp only [List.getElem?_toArray, List.getElem?_cons_zero, List.getElem?_cons_succ] at t2 o0
          have hjn2 : (jj : Int) < (n : Int) := by have := HN.out; omega
          have hjj0 : (0 : Int) ≤ (jj : Int) := by omega
          have hsm1 := HSM.out.1
          have hsm2 := HSM.out.2.1
          have HS3 := Lib.hid HSM.out.2.2.1
          have hnb : t.n ≤ 1000000 := by have := HS3.out; omega
          have HSS := Lib.hid (strOf_size t.p)
          have hsum : ¬ 9223372036854775807 < (strOf t.p).size + (rs[jj]'hjj).p.size := by have := HSS.out; omega
          obtain ⟨x, hx⟩ : ∃ x, rs[jj]'hjj = x := ⟨_, rfl⟩
          rw [hx] at e0 z1 z2 z3 hsum HGO2
          have HXE := Lib.hid hx
          clear hcc hGO hxe hxm hok2 hx
          go_upto_region 8 with fail
          go_region
          have hgc : g10 ≠ c := Blk.type_ne HD10.out HR10.out.ho (by decide)
          have HR11 : Hid (RB w p c m a (some ⟨b, o, none⟩) n k (w10.setCell ⟨c, 0, none⟩ (.string (strOf t.p ++ x.p))).drew ⟨t.p ++ (bytes x.p).map (fun b : Nat => (b : Int)), t.c, t.n, t.st⟩ cv) := by
            refine (HR10.out.put ⟨t.p ++ (bytes x.p).map (fun b : Nat => (b : Int)), t.c, t.n, t.st⟩ (fun q hq => Below.heap_setCell _ ⟨c, 0, none⟩ _ q hq) rfl ?_ (HR10.out.hb.setCell (by have := HR10.out.hpc; show p ≤ c; omega) _)).drew
            have := HR10.out.ho.set 0 (.string (strOf t.p ++ x.p))
            rw [strOf_app]
            exact this
          have HD11 : Hid (Blk (w10.setCell ⟨c, 0, none⟩ (.string (strOf t.p ++ x.p))).drew g10 26 #[.int .i64 ta, .int .i64 tb, .int .u8 tc]) := (Below.heap_setCell _ ⟨c, 0, none⟩ _ g10 hgc).trans HD10.out
          clear HD10 HR10 d0 t2 o0 f0 e0 hsum HSS hB HRW10
          generalize (w10.setCell ⟨c, 0, none⟩ (.string (strOf t.p ++ x.p))).drew = w11 at *
          have HR11d := Lib.hid HR11.out.drew
          have HRU : Hid (Rules w11 w11.heap.size (some ⟨b, o, none⟩) rs) := (HR.out.keep HR11.out.hb).more (by have := HR11.out.hb.size; have := HW.out; omega)
          obtain ⟨hB, hra⟩ := rules_at HRU.out hjj
          rw [HXE.out] at hra
          obtain ⟨A9, k9, _, e1, _, _, _, _, hsq, _⟩ := hra
          obtain ⟨bx, ox, e9, hbx, hcx⟩ := hsq (by omega)
          subst e9
          have d0 := (HR11.out.hb.cell (p := ⟨bk, ok + j, none⟩) (by show bk < _; omega)).trans DK.out
          have t2 := HR11.out.ht.cell 2
          have o1 := HR11.out.ho.cell 1
          have f1 := HR11.out.ho.free 1
          simp only [List.getElem?_toArray, List.getElem?_cons_zero, List.getElem?_cons_succ] at t2 o1
          have HNW : Hid (∀ (i : Nat) (u : Value), (x.c.map (Value.int .u8))[i]? = some u → w11.drew.cell? ((⟨bx, ox, none⟩ : Addr).add i) = some u) := fun i u hu => by
            rw [List.getElem?_map] at hu
            cases hi : x.c[i]? with
            | none => rw [hi] at hu; cases hu
            | some z =>
              rw [hi] at hu
              injection hu with hu
              have hil := (List.getElem?_eq_some_iff.1 hi)
              rw [plain_add, ← hu, ← hil.2]
              exact hcx i hil.1
          clear hcx hsq
          obtain ⟨i1, hj1, hy0, hy1, hy2⟩ := info_parts info_cell
          have s1 : Hid (w11.drew.ownsRow (c + 1) 64 1 cv t.c.length (t.c.map (Value.int .u8))) := HR11d.out.hc
          have s2 : Hid (c + 1 ≤ w11.drew.heap.size) := HR11d.out.ho.lt
          have s3 := Lib.hid HR11d.out.ho
          have hcl2 : t.c.length + x.c.length ≤ 4000004 := by omega
          go_wp2_with fail
          go_region_law (refine step_append_own rfl (.tmp 45) (.tmp 54) 39 rfl (c + 1) 64 i1 (.int .u8 0) 1 1 Try.underlying39 hj1 hy0 hy1 hy2 rfl (by decide) cv t.c.length (t.c.map (Value.int .u8)) (by simp [Act.eval]) s1.out ⟨bx, ox, none⟩ x.c.length k9 (x.c.map (Value.int .u8)) (by simp [Act.eval]) (by simp) HNW.out (ints_oneCell .u8 x.c) (by unfold maxLen; omega) (by omega) s2.out ?_; intro v' w' h1' h2'; obtain ⟨AN, kN, rfl⟩ := own_shape h1'; have o9 := Lib.hid (Blk.row s1.out h2' s3.out (by decide)); have c9 := o9.out.cell 1; have f9 := o9.out.free 1; simp only [List.getElem?_toArray, List.getElem?_cons_zero, List.getElem?_cons_succ] at c9)
          all_goals
            have HR12 := Lib.hid (RB.cells HR11d.out h1' h2')
            have HD12 : Hid (Blk (w'.setCell ⟨c, 1, none⟩ (.slice AN (t.c.length + x.c.length) kN)) g10 26 #[.int .i64 ta, .int .i64 tb, .int .u8 tc]) := (Below.heap_setCell _ ⟨c, 1, none⟩ _ g10 hgc).trans (Blk.row s1.out h2' (w := w11.drew) HD11.out (by decide))
            clear h1' h2' c9 f9 o9 s1 s2 s3 HNW HR11 HR11d HD11 HRU d0 t2 o1 f1 e1
            generalize w'.setCell ⟨c, 1, none⟩ (.slice AN (t.c.length + x.c.length) kN) = w12 at *
            have o2 := HR12.out.ho.cell 2
            have o3 := HR12.out.ho.cell 3
            have o4 := HR12.out.ho.cell 4
            have o5 := HR12.out.ho.cell 5
            have f2 := HR12.out.ho.free 2
            have f3 := HR12.out.ho.free 3
            have f4 := HR12.out.ho.free 4
            have f5 := HR12.out.ho.free 5
            have d0 := HD12.out.cell 0
            have d1 := HD12.out.cell 1
            have d2 := HD12.out.cell 2
            simp only [List.getElem?_toArray, List.getElem?_cons_zero, List.getElem?_cons_succ] at o2 o3 o4 o5 d0 d1 d2
            go_wp2_with fail
            have HR13 : RB w p c m a (some ⟨b, o, none⟩) n k ((((w12.setCell ⟨c, 3, none⟩ (.int .i64 ta)).setCell ⟨c, 4, none⟩ (.int .i64 tb)).setCell ⟨c, 5, none⟩ (.int .u8 tc)).setCell ⟨c, 2, none⟩ (.int .i64 ((t.n : Int) + 1))) (t.add x ⟨ta, tb, tc⟩) (.slice AN (t.c.length + x.c.length) kN) := by
              have hpc := HR12.out.hpc
              refine HR12.out.put (t.add x ⟨ta, tb, tc⟩) (fun q hq => ?_) rfl ?_ ((((HR12.out.hb.setCell (by show p ≤ c; omega) _).setCell (by show p ≤ c; omega) _).setCell (by show p ≤ c; omega) _).setCell (by show p ≤ c; omega) _)
              · exact (((Below.heap_setCell _ ⟨c, 2, none⟩ _ q hq).trans (Below.heap_setCell _ ⟨c, 5, none⟩ _ q hq)).trans (Below.heap_setCell _ ⟨c, 4, none⟩ _ q hq)).trans (Below.heap_setCell _ ⟨c, 3, none⟩ _ q hq)
              · have h := (((HR12.out.ho.set 3 (.int .i64 ta)).set 4 (.int .i64 tb)).set 5 (.int .u8 tc)).set 2 (.int .i64 ((t.n : Int) + 1))
                exact h
            refine ⟨⟨j + 1, t.add x ⟨ta, tb, tc⟩, .slice AN (t.c.length + x.c.length) kN, by go_num, HL.out, ⟨?_, ?_, ?_, HOK2.out⟩, HGO2.out, HR13⟩, ?_⟩
            · show (t.p ++ (bytes x.p).map fun b : Nat => (b : Int)).length ≤ _
              rw [List.length_append, List.length_map, bytes_len]; omega
            · show (t.c ++ x.c).length ≤ _
              rw [List.length_append]; omega
            · show t.n + 1 = j + 1
              have := HS3.out; omega
            · have := HL.out; simp [intOf]; omega
    · have hje : j = pn := by omega
      have HF : Hid (t = runT rs ks) := by
        unfold Hid
        rw [← hgo, List.drop_eq_nil_of_le (by have := HKS.out; omega)]; rfl
      have hnj := hsm.2.2.1
      have HSF := Lib.hid (hsm.2.2.2.fit hm.2)
      have HNJ : Hid (t.n = pn) := by unfold Hid; omega
      clear hra hsm hgo hnj
      go_wp2_with fail
      refine (rAccepts_any m a A n k t.st ha HSF.out wr).mono ?_
      rw [HAC.out]
      rintro e wy ⟨rfl, hby⟩
      have HRY := Lib.hid (HRA.out.below hby)
      clear hby t0 t1 t2 c3 c4 c5 HRA
      obtain ⟨CA, ck, rfl⟩ := own_shape HRY.out.hc
      have o0 := HRY.out.ho.cell 0
      have o1 := HRY.out.ho.cell 1
      have o2 := HRY.out.ho.cell 2
      have o3 := HRY.out.ho.cell 3
      have o4 := HRY.out.ho.cell 4
      have o5 := HRY.out.ho.cell 5
      have o6 := HRY.out.ho.cell 6
      have g6 := HRY.out.ho.free 6
      have z0 := HRY.out.hz.cell 0
      have z1 := HRY.out.hz.cell 1
      have z2 := HRY.out.hz.cell 2
      have z3 := HRY.out.hz.cell 3
      have z4 := HRY.out.hz.cell 4
      have z5 := HRY.out.hz.cell 5
      have z6 := HRY.out.hz.cell 6
      have f0 := HRY.out.hz.free 0
      have f1 := HRY.out.hz.free 1
      have f2 := HRY.out.hz.free 2
      have f3 := HRY.out.hz.free 3
      have f4 := HRY.out.hz.free 4
      have f5 := HRY.out.hz.free 5
      have f6 := HRY.out.hz.free 6
      have hpc := HRY.out.hpc
      have hpne : ¬ (c = p + 1) := by omega
      have hpne2 : ¬ (p + 1 = c) := by omega
      simp only [List.getElem?_toArray, List.getElem?_cons_zero, List.getElem?_cons_succ] at o0 o1 o2 o3 o4 o5 o6 z0 z1 z2 z3 z4 z5 z6
      go_wp2_with fail
      have HRZ : Hid (Blk (wy.setCell ⟨c, 6, none⟩ (.bool (accB a t.st))) (p + 1) 41 #[.string ⟨#[]⟩, .slice none 0 0, .int .i64 0, .int .i64 0, .int .i64 0, .int .u8 0, .bool false]) := (Below.heap_setCell _ ⟨c, 6, none⟩ _ (p + 1) hpne2).trans HRY.out.hz
      have HOZ : Hid ((wy.setCell ⟨c, 6, none⟩ (.bool (accB a t.st))).ownsRow (c + 1) 64 1 (.slice CA t.c.length ck) t.c.length (t.c.map (Value.int .u8))) := own_move HRY.out.hc fun q hq => by
        have h1 := (HRY.out.hc.lt q hq).1
        exact Below.heap_setCell _ ⟨c, 6, none⟩ _ q (show q ≠ c by omega)
      have HBZ : Hid (Below p w (wy.setCell ⟨c, 6, none⟩ (.bool (accB a t.st)))) := HRY.out.hb.setCell (by show p ≤ c; omega) _
      have hq := ((((((HRZ.out.set 0 (.string (strOf t.p))).set 1 (.slice CA t.c.length ck)).set 2 (.int .i64 (t.n : Nat))).set 3 (.int .i64 t.st.mode)).set 4 (.int .i64 t.st.last)).set 5 (.int .u8 t.st.need)).set 6 (.bool (accB a t.st))
      have hout := trace_out HRZ.out (own_seqT HOZ.out) HBZ.out (Nat.le_succ p) (.string (strOf t.p)) (.slice CA t.c.length ck) (.int .i64 (t.n : Nat)) (.int .i64 t.st.mode) (.int .i64 t.st.last) (.int .u8 t.st.need) (.bool (accB a t.st))
      clear z0 z1 z2 z3 z4 z5 z6 f0 f1 f2 f3 f4 f5 f6 o0 o1 o2 o3 o4 o5 o6 g6
      refine bodyPost_ret (v := .agg #[.string (strOf t.p), .slice CA t.c.length ck, .int .i64 (t.n : Nat), .int .i64 t.st.mode, .int .i64 t.st.last, .int .u8 t.st.need, .bool (accB a t.st)]) ?_ rfl ⟨CA, ck, ?_, ?_, ?_⟩
      · have y0 := hq.cell 0
        have y1 := hq.cell 1
        have y2 := hq.cell 2
        have y3 := hq.cell 3
        have y4 := hq.cell 4
        have y5 := hq.cell 5
        have y6 := hq.cell 6
        simp [results, Try.results18, go_sem, y0, y1, y2, y3, y4, y5, y6]
      · have hok : runOk a rs ks = accB a t.st := by
          unfold runOk
          rw [← HF.out, decide_eq_true (by rw [HKS.out]; exact HNJ.out)]; rfl
        rw [hok, ← HF.out]
      · rw [← HF.out]; exact hout.1
      · rw [HW.out]; exact hout.2
end Go.Proofs.Ytkjlpmkhifjmdaa

/-! What the operations of a drawn region give, as a list of what holds of each. -/
namespace Go.Proofs.Ytkjlpmkhifjmdaa
open Go.RowKit
def phiV (L : List (Option Value)) (t : TypeId) (cs : Array Value) (mk : Nat → Value) (i : Nat) (v : Value) (w : World) : Prop := match L[i]? with
  | some (some u) => v = u
  | some none => ∃ g, v = mk g ∧ Blk w g t cs
  | none => True
theorem phiV_keep {L : List (Option Value)} {t : TypeId} {cs : Array Value} {mk : Nat → Value} {i : Nat} {v : Value} {w w' : World} (hb : Below w.heap.size w w') (h : phiV L t cs mk i v w) : phiV L t cs mk i v w' := by
  unfold phiV at h ⊢
  split
  · rename_i u hu
    rw [hu] at h
    exact h
  · rename_i hu
    rw [hu] at h
    obtain ⟨g, e, hB⟩ := h
    exact ⟨g, e, hB.keep hb hB.lt⟩
  · trivial
/-- A value; a value of some form; a block that was made. -/
def pv (u : Value) : Value → World → Prop := fun v _ => v = u
def pe {α : Type} (f : α → Value) : Value → World → Prop := fun v _ => ∃ x, v = f x
def pb (mk : Nat → Value) (t : TypeId) (cs : Array Value) : Value → World → Prop := fun v w => ∃ g, v = mk g ∧ Blk w g t cs
def pq {α : Type} (f : α → Value) (p : α → World → Prop) : Value → World → Prop := fun v w => ∃ x, v = f x ∧ p x w
def Stays (p : Value → World → Prop) : Prop := ∀ v w w', p v w → Below w.heap.size w w' → p v w'
theorem pv_st {u : Value} : Stays (pv u) := fun _ _ _ h _ => h
theorem pe_st {α : Type} {f : α → Value} : Stays (pe f) := fun _ _ _ h _ => h
theorem pb_st {mk : Nat → Value} {t : TypeId} {cs : Array Value} : Stays (pb mk t cs) := fun _ _ _ ⟨g, e, hB⟩ hb => ⟨g, e, hB.keep hb hB.lt⟩
theorem pq_st {α : Type} {f : α → Value} {p : α → World → Prop} (h : ∀ x w w', p x w → Below w.heap.size w w' → p x w') : Stays (pq f p) := fun _ _ _ ⟨x, e, hp⟩ hb => ⟨x, e, h x _ _ hp hb⟩
def StayL : List (Value → World → Prop) → Prop
  | [] => True
  | p :: r => Stays p ∧ StayL r
theorem stay_nil : StayL [] := trivial
theorem stay_cons {p : Value → World → Prop} {r : List (Value → World → Prop)} (h : Stays p) (hr : StayL r) : StayL (p :: r) := ⟨h, hr⟩
def phiP (L : List (Value → World → Prop)) (i : Nat) (v : Value) (w : World) : Prop := match L[i]? with
  | some p => p v w
  | none => True
theorem stay_at : ∀ (L : List (Value → World → Prop)) (i : Nat) (p : Value → World → Prop), StayL L → L[i]? = some p → Stays p := by
  intro L
  induction L with
  | nil => intro i p _ h; simp at h
  | cons a r ih =>
    intro i p hs h
    cases i with
    | zero =>
      have e : a = p := by simpa using h
      rw [← e]; exact hs.1
    | succ i => exact ih i p hs.2 (by simpa using h)
theorem phiP_keep {L : List (Value → World → Prop)} (hs : StayL L) {i : Nat} {v : Value} {w w' : World} (h : phiP L i v w) (hb : Below w.heap.size w w') : phiP L i v w' := by
  unfold phiP at h ⊢
  split
  · rename_i p hp
    rw [hp] at h
    exact stay_at L i p hs hp v w w' h hb
  · trivial
end Go.Proofs.Ytkjlpmkhifjmdaa

/-! law03.AutomatonRuns. -/
namespace Go.Proofs.Ytkjlpmkhifjmdaa
open Go.RowKit Go.Maps
theorem own_take {w : World} {base n cap r : Nat} {e : TypeId} {A : Option Addr} {xs : List Value} (h : w.ownsRow base e 1 (.slice A n cap) n xs) (hr : r ≤ n) : w.ownsRow base e 1 (.slice A r cap) r (xs.take r) ∧ n ≤ cap := by
  obtain ⟨hl, hf⟩ := id h
  rcases hf with ⟨h0, hn0⟩ | ⟨g, cap', cur, e1, hg, hblk, hnc, hcm, hcs, htk⟩
  · injection h0 with e1 e2 e3
    subst e1 e3
    obtain rfl : r = 0 := by omega
    refine ⟨⟨by simp, .inl ⟨rfl, by simp⟩⟩, by omega⟩
  · injection e1 with e2 e3 e4
    subst e2 e4
    refine ⟨⟨by rw [List.length_take]; simp at hl; omega, .inr ⟨g, cap, cur, rfl, hg, hblk, by omega, hcm, hcs, ?_⟩⟩, hnc⟩
    rw [← htk, List.take_take]
    congr 1
    omega
theorem box_two (w : World) (r1 r2 : Array Value) {t1 t2 : TypeId} :
    Blk ((w.alloc (.cells r1 t1)).alloc (.cells r2 t2)) w.heap.size t1 r1 ∧ Blk ((w.alloc (.cells r1 t1)).alloc (.cells r2 t2)) (w.heap.size + 1) t2 r2 ∧ Below w.heap.size w ((w.alloc (.cells r1 t1)).alloc (.cells r2 t2)) := by
  have n2 := Blk.new (w.alloc (.cells r1 t1)) r2 t2
  have s : (w.alloc (.cells r1 t1)).heap.size = w.heap.size + 1 := by simp
  rw [s] at n2
  exact ⟨(Blk.new _ _ _).box, n2, ((Below.refl _ _).alloc (Nat.le_refl _) _).alloc (by simp) _⟩
theorem seqN_at2 {w : World} {B lb lo : Nat} {ks : List Int} (h : SeqN w B (some ⟨lb, lo, none⟩) ks) {i : Nat} (hi : i < ks.length) : lb < B ∧ w.cell? ⟨lb, lo + i, none⟩ = some (.int .i64 ks[i]) := by
  obtain ⟨b, o, e, hb, hc⟩ := h (by omega)
  have e1 : lb = b := by injection e with e; injection e
  have e2 : lo = o := by injection e with e; injection e
  rw [e1, e2]
  exact ⟨hb, hc i hi⟩
/-- What Run hands back. -/
def runV (a : Int) (rs : List Rule) (ks : List Int) (z : Option Addr × Nat) : Value := .agg #[.string (strOf (runT rs ks).p), .slice z.1 (runT rs ks).c.length z.2, .int .i64 ((runT rs ks).n : Nat), .int .i64 (runT rs ks).st.mode, .int .i64 (runT rs ks).st.last, .int .u8 (runT rs ks).st.need, .bool (runOk a rs ks)]
def runW (ok : Bool) (rs : List Rule) (ks : List Int) (z : Option Addr × Nat) : Value := .agg #[.string (strOf (runT rs ks).p), .slice z.1 (runT rs ks).c.length z.2, .int .i64 ((runT rs ks).n : Nat), .int .i64 (runT rs ks).st.mode, .int .i64 (runT rs ks).st.last, .int .u8 (runT rs ks).st.need, .bool ok]
theorem runV_ok (a : Int) (rs : List Rule) (ks : List Int) (z : Option Addr × Nat) (w : World) : (Instr.field 41 (runV a rs ks z) 4).run Try.prog w = .ok (.bool (runOk a rs ks)) w := by unfold runV; kernel_rfl
/-- The cells' row, and the state, while the law applies one rule after the other. -/
structure RM (h sc : Nat) (w1 : World) (cv : Value) (cs : List Int) (s : St) (W : World) : Prop where
  own : W.ownsRow h 64 1 cv cs.length (cs.map (Value.int .u8))
  blk : Blk W sc 26 #[.int .i64 s.mode, .int .i64 s.last, .int .u8 s.need]
  low : h ≤ sc
  b : Below h w1 W
theorem RM.size {h sc : Nat} {w1 : World} {cv : Value} {cs : List Int} {s : St} {W : World} (H : RM h sc w1 cv cs s W) : h < W.heap.size := Nat.lt_of_le_of_lt H.low H.blk.lt
theorem RM.next {h sc : Nat} {w1 : World} {cv : Value} {cs : List Int} {s : St} {W W' : World} (H : RM h sc w1 cv cs s W) (hb : Below W.heap.size W W') : RM h sc w1 cv cs s W' :=
  ⟨own_keep H.own hb, H.blk.keep hb H.blk.lt, H.low, H.b.trans (hb.mono (Nat.le_of_lt H.size))⟩
theorem RM.grow {h sc : Nat} {w1 : World} {cv v : Value} {cs q : List Int} {s : St} {W W' : World} (H : RM h sc w1 cv cs s W) (hg : W.grownBy W' cv.ownBlock) (ho : W'.ownsRow h 64 1 v (cs.length + q.length) (cs.map (Value.int .u8) ++ q.map (Value.int .u8))) : RM h sc w1 v (cs ++ q) s W' := by
  refine ⟨?_, Blk.row H.own hg H.blk (by decide), H.low, H.b.grown hg (Nat.le_of_lt H.size) (fun g hg' => (H.own.lt g hg').1)⟩
  rw [List.length_append, List.map_append]
  exact ho
theorem RM.put {h sc : Nat} {w1 : World} {cv : Value} {cs : List Int} {s t : St} {W : World} (H : RM h sc w1 cv cs s W) : RM h sc w1 cv cs t (((W.setCell ⟨sc, 0, none⟩ (.int .i64 t.mode)).setCell ⟨sc, 1, none⟩ (.int .i64 t.last)).setCell ⟨sc, 2, none⟩ (.int .u8 t.need)) := by
  have key : ∀ b, b ≠ sc → (((W.setCell ⟨sc, 0, none⟩ (.int .i64 t.mode)).setCell ⟨sc, 1, none⟩ (.int .i64 t.last)).setCell ⟨sc, 2, none⟩ (.int .u8 t.need)).heap[b]? = W.heap[b]? := fun b hb =>
    ((Below.heap_setCell _ ⟨sc, 2, none⟩ _ b hb).trans (Below.heap_setCell _ ⟨sc, 1, none⟩ _ b hb)).trans (Below.heap_setCell _ ⟨sc, 0, none⟩ _ b hb)
  have hs1 := ((H.blk.set 0 (.int .i64 t.mode)).set 1 (.int .i64 t.last)).set 2 (.int .u8 t.need)
  refine ⟨own_move H.own fun b hb => key b fun e => own_ne3 H.own H.blk (by decide) (by rw [hb, e]), hs1, H.low, ((H.b.setCell H.low _).setCell H.low _).setCell H.low _⟩
theorem RM.drew {h sc : Nat} {w1 : World} {cv : Value} {cs : List Int} {s : St} {W : World} (H : RM h sc w1 cv cs s W) : RM h sc w1 cv cs s W.drew := ⟨H.own, H.blk, H.low, H.b.drew⟩
/-- The table and the list, below. -/
structure RT (q : Nat) (m a : Int) (A2 : Option Addr) (k2 : Nat) (rs : List Rule) (PA : Option Addr) (ks : List Int) (w : World) : Prop where
  t : TB q m a A2 rs.length k2 rs w
  p : SeqN w w.heap.size PA ks
theorem RT.next {w w' : World} {q : Nat} {m a : Int} {A2 : Option Addr} {k2 : Nat} {rs : List Rule} {PA : Option Addr} {ks : List Int} (h : RT q m a A2 k2 rs PA ks w) (hb : Below w.heap.size w w') : RT q m a A2 k2 rs PA ks w' := ⟨h.t.next hb, h.p.up hb⟩
set_option maxRecDepth 10000 in
set_option maxHeartbeats 4000000 in
theorem walk_runs (bs dr : Int) (A : Option Addr) (n k : Nat) (XA : Option Addr) (xk : Nat) (xs : List Int) (cut : Int) (w : World) (hW : RawMs w w.heap.size A n) (hbs : 0 ≤ bs ∧ bs < 256) (hdr : 0 ≤ dr ∧ dr < 256) (hX : Seq w w.heap.size XA xs) (hxs : ∀ z ∈ xs, 0 ≤ z ∧ z < 256) (hcut : 0 ≤ cut ∧ cut < 256) :
    Calls Try.prog 4 #[.agg #[.int .u8 bs, .int .u8 dr, .slice A n k], .slice XA xs.length xk, .int .u8 cut] w fun e w' => e = .returned (.bool true) ∧ Below w.heap.size w w' := by
  obtain ⟨g, hg⟩ : ∃ g, w.heap.size = g := ⟨_, rfl⟩
  have V0A : Hid (Blk (w.alloc (.cells #[.int .u8 bs, .int .u8 dr, .slice A n k] 24)) g 24 #[.int .u8 bs, .int .u8 dr, .slice A n k]) := by
    unfold Hid; rw [← hg]; exact Blk.new w _ _
  have V0B : Hid (Below w.heap.size w (w.alloc (.cells #[.int .u8 bs, .int .u8 dr, .slice A n k] 24))) := (Below.refl _ _).alloc (Nat.le_refl _) _
  have HW := Lib.hid hW
  have HX := Lib.hid hX
  have HXS := Lib.hid hxs
  clear hW hX hxs
  go_enter Try.func4, Try.ntmps4
  go_wp2_with fail
  generalize w.alloc (.cells #[.int .u8 bs, .int .u8 dr, .slice A n k] 24) = V0 at *
  refine (sanity3_any _).mono ?_
  rintro e w1 ⟨rfl, hb1⟩
  have A1 := Lib.hid (V0A.out.keep hb1 (Blk.lt V0A.out))
  have B1 : Hid (Below w.heap.size w w1) := below_next V0B.out hb1
  clear hb1 V0A V0B
  have a0 := A1.out.cell 0
  have a1 := A1.out.cell 1
  have a2 := A1.out.cell 2
  simp only [List.getElem?_toArray, List.getElem?_cons_zero, List.getElem?_cons_succ] at a0 a1 a2
  go_wp2_with fail
  have HW1 : RawMs w1 w1.heap.size A n := HW.out.up B1.out
  refine (made_any w1 A n k bs dr HW1 hbs hdr).mono ?_
  rintro e w2 ⟨m, a, rs, v, rfl, hM, hG, hl10, hm12, ha, hb2⟩
  obtain ⟨A2, k2, rfl, hR2, _⟩ := (Made.b hM).rules
  have HG := Lib.hid hG
  have R2 := Lib.hid hR2
  have B2 : Hid (Below w.heap.size w w2) := below_next B1.out hb2
  clear hb2 hM hG hR2 a0 a1 a2 HW1 B1 A1 HW
  obtain ⟨q, hq⟩ : ∃ q, w2.heap.size = q := ⟨_, rfl⟩
  go_upto_region 3 with fail
  have BA : Hid (Below w2.heap.size w2 (w2.alloc (.cells #[.int .i64 m, .int .u8 a, .slice A2 rs.length k2] 31))) := below_box _ _ _
  have T3 : Hid (Blk (w2.alloc (.cells #[.int .i64 m, .int .u8 a, .slice A2 rs.length k2] 31)) q 31 #[.int .i64 m, .int .u8 a, .slice A2 rs.length k2]) := by
    unfold Hid; rw [← hq]; exact Blk.new w2 _ _
  have R3 := Lib.hid (R2.out.up BA.out)
  have B3 : Hid (Below w.heap.size w (w2.alloc (.cells #[.int .i64 m, .int .u8 a, .slice A2 rs.length k2] 31))) := below_next B2.out BA.out
  generalize w2.alloc (.cells #[.int .i64 m, .int .u8 a, .slice A2 rs.length k2] 31) = w3 at *
  clear hq BA R2 B2
  have t0 := T3.out.cell 0
  have t1 := T3.out.cell 1
  have t2 := T3.out.cell 2
  simp only [List.getElem?_toArray, List.getElem?_cons_zero, List.getElem?_cons_succ] at t0 t1 t2
  have hm8 : 1 ≤ m ∧ m ≤ 8 := by omega
  have hmax : rs.length ≤ 64 := by omega
  have HFT := Lib.hid R3.out.fit
  have hc0 := hcut.1
  have hc1 := hcut.2
  clear hcut
  go_wp2_with fail
  refine (walk_any m a A2 rs.length k2 rs w3 rfl R3.out HG.out hmax hm8 ha XA xs.length xk xs rfl (HX.out.up B3.out) HXS.out).mono ?_
  rintro e w4 ⟨hb4, PA, pk, ks, hown, hend⟩
  have T4 : Hid (TB q m a A2 rs.length k2 rs w4) := (TB.mk T3.out R3.out).next hb4
  have B4 : Hid (Below w.heap.size w w4) := below_next B3.out hb4
  have HO := Lib.hid hown
  have HL0 : Hid (w3.heap.size ≤ w4.heap.size) := hb4.size
  have HT3 : Hid (TB q m a A2 rs.length k2 rs w3) := ⟨T3.out, R3.out⟩
  have HB3 : Hid (Below w3.heap.size w3 w4) := hb4
  clear hb4 hown t0 t1 t2 T3 R3 HX HXS
  obtain ⟨h0, hh0⟩ : ∃ h0, w3.heap.size = h0 := ⟨_, rfl⟩
  rw [hh0] at HO HL0 HB3
  have HW3 := Lib.hid hh0
  clear hh0
  obtain ⟨pb, rfl, hpb, hkl⟩ : ∃ pb : Bool, e = .returned (.tuple #[.slice PA ks.length pk, .bool pb]) ∧ (pb = true → runOk a rs ks = true) ∧ ks.length ≤ 4000 := by
    rcases hend with ⟨h1, h2, _⟩ | ⟨h1, h2, h3⟩
    · subst h2; exact ⟨false, h1, (fun h => by cases h), Nat.zero_le _⟩
    · exact ⟨true, h1, fun _ => h2, h3⟩
  clear hend
  have HPB := Lib.hid hpb
  clear hpb
  dsimp only
  have hfd := fun z w => runV_ok a rs ks z w
  go_upto_region 4 with fail
  go_cut [34] from 27 to 34 (fun s34 wx => s34 = .bool false ∧ Below w4.heap.size w4 wx)
  case first =>
    cases pb with
    | false =>
      go_wp2_with fail
      go_meet
      exact ⟨rfl, Below.refl _ _⟩
    | true =>
      have t0 := T4.out.t.cell 0
      have t1 := T4.out.t.cell 1
      have t2 := T4.out.t.cell 2
      simp only [List.getElem?_toArray, List.getElem?_cons_zero, List.getElem?_cons_succ] at t0 t1 t2
      have hok := HPB.out rfl
      go_wp2_with fail
      refine (run_any m a A2 rs.length k2 rs PA ks.length pk ks w4 rfl T4.out.r HG.out hmax hm8 ha rfl (own_seqN HO.out) (by omega)).mono ?_
      rintro e w5 ⟨CA, ck, rfl, _, hb5⟩
      have hfd2 := hfd (CA, ck)
      unfold runV at hfd2
      rw [hok] at hfd2 ⊢
      have HB5 := Lib.hid hb5
      clear hok hb5 t0 t1 t2 hfd
      generalize strOf (runT rs ks).p = S at *
      generalize (runT rs ks).c.length = cn at *
      generalize (runT rs ks).n = tn at *
      generalize (runT rs ks).st.mode = y1 at *
      generalize (runT rs ks).st.last = y2 at *
      generalize (runT rs ks).st.need = y3 at *
      dsimp only at hfd2
      go_wp2_with fail
      go_meet
      exact ⟨rfl, HB5.out⟩
  case rest =>
    obtain ⟨rfl, hb5⟩ := hcut
    have HO5 := Lib.hid (own_keep HO.out hb5)
    have HL5 : Hid (h0 ≤ wc.heap.size) := by have := HL0.out; have := hb5.size; unfold Hid; omega
    have HB5 : Hid (Below h0 w3 wc) := HB3.out.trans (hb5.mono HL0.out)
    clear hb5 T4 HO B4 HL0 hfd HPB HB3
    obtain ⟨r, hr, hrl⟩ : ∃ r : Nat, cut % ((ks.length : Int) + 1) = (r : Int) ∧ r ≤ ks.length := by
      have h1 := Int.emod_nonneg cut (b := (ks.length : Int) + 1) (by omega)
      have h2 := Int.emod_lt_of_pos cut (b := (ks.length : Int) + 1) (by omega)
      exact ⟨(cut % ((ks.length : Int) + 1)).toNat, by omega, by omega⟩
    obtain ⟨l, hl, hll⟩ : ∃ l : Nat, cut % 12 = (l : Int) ∧ l < 12 := ⟨(cut % 12).toNat, by omega, by omega⟩
    obtain ⟨HTK, hcap⟩ := own_take HO5.out hrl
    have hr0 : (0 : Int) ≤ (r : Int) := by omega
    have hrk : (r : Int) ≤ (pk : Int) := by omega
    have hrk2 : r ≤ pk := by omega
    obtain ⟨i1, hj1, hy0, hy1, hy2⟩ := info_parts info_int
    go_upto_region 7 with fail
    have hN : Hid (Blk (wc.alloc (.cells #[.int .i64 l] 3)) wc.heap.size 3 [Value.int .i64 l].toArray) := Blk.new _ _ _
    have HO6 := Lib.hid (own_keep HTK (below_box wc #[.int .i64 l] 3))
    have hsz : h0 ≤ (wc.alloc (.cells #[.int .i64 l] 3)).heap.size := by have := HL5.out; simp; omega
    have hwl : cut % 12 = (l : Int) := hl
    go_wp2_with (at_builtin; refine wpList_append_own (wc.alloc (.cells #[.int .i64 l] 3)) rfl _ _ 33 rfl h0 3 i1 (.int .i64 0) 1 8 Try.underlying33 hj1 hy0 hy1 hy2 rfl (by decide) _ r _ rfl HO6.out ⟨wc.heap.size, 0, none⟩ 1 1 [.int .i64 l] rfl rfl hN.out.news (by simp [Value.oneCell']) (by unfold maxLen; omega) (by omega) hsz ?_)
    intro v6 w6 hown hgr _
    have HB6 : Hid (Below h0 w3 w6) := (HB5.out.alloc (by have := HB5.out.size; have := HW3.out; omega) _).grown hgr (by have := HB5.out.size; have := HW3.out; simp; omega) (fun g hg => (HO6.out.lt g hg).1)
    have hpl : ((ks.take r ++ [(l : Int)]).map (Value.int .i64)) = (ks.map (Value.int .i64)).take r ++ [.int .i64 l] := by rw [List.map_append, List.map_take]; rfl
    have hplen : (ks.take r ++ [(l : Int)]).length = r + 1 := by rw [List.length_append, List.length_take]; simp; omega
    rw [← hpl, ← hplen] at hown
    obtain ⟨QA, qk, rfl⟩ := own_shape hown
    have HSQ := Lib.hid (own_seqN hown)
    have HRT6 : Hid (RT q m a A2 k2 rs QA (ks.take r ++ [(l : Int)]) w6) := ⟨⟨HT3.out.t.keep HB6.out (by rw [← HW3.out]; exact Blk.lt HT3.out.t), (HT3.out.r.keep (by rw [HW3.out]; exact HB6.out)).more (by have := HB6.out.size; have := HW3.out; omega)⟩, HSQ.out⟩
    have B6 : Hid (Below w.heap.size w w6) := B3.out.trans (HB6.out.mono (by have := B3.out.size; have := HW3.out; omega))
    have HPL : Hid ((ks.take r ++ [(l : Int)]).length ≤ 4001) := by unfold Hid; omega
    clear hown hgr hpl hplen HO6 HO5 HTK hsz hN HB5 HB6 HSQ HL5 HT3 HW3 B3 hr hl hwl hr0 hrk hrk2 hcap
    generalize wc.heap.size = zz0 at *
    generalize ks.take r ++ [(l : Int)] = ps at *
    obtain ⟨L, hL⟩ : ∃ L, ps.length = L := ⟨_, rfl⟩
    rw [hL] at HPL
    simp only [hL]
    have HLL := Lib.hid hL
    clear hL
    go_wp2_with fail
    refine (start_any w6).mono ?_
    rintro e wb ⟨rfl, hbb⟩
    rw [show St.start.val = .agg #[.int .i64 0, .int .i64 0, .int .u8 63] from rfl]
    have HRTB := Lib.hid (HRT6.out.next hbb)
    have BB : Hid (Below w.heap.size w wb) := below_next B6.out hbb
    clear hbb HRT6 B6
    go_upto_block 0 with fail
    have hbx := box_two wb #[] #[.int .i64 0, .int .i64 0, .int .u8 63] (t1 := 64) (t2 := 26)
    have HRM0 : Hid (RM wb.heap.size (wb.heap.size + 1) wb (.slice (some ⟨wb.heap.size, 0, none⟩) 0 0) [] St.start ((wb.alloc (.cells #[] 64)).alloc (.cells #[.int .i64 0, .int .i64 0, .int .u8 63] 26))) :=
      ⟨own_keep (World.ownsRow_lit wb #[] 0 (Nat.le_refl _) (Nat.zero_le _) rfl) (below_box _ _ _), hbx.2.1, Nat.le_succ _, hbx.2.2⟩
    clear hbx
    generalize (wb.alloc (.cells #[] 64)).alloc (.cells #[.int .i64 0, .int .i64 0, .int .u8 63] 26) = V at *
    obtain ⟨h, hh⟩ : ∃ h, wb.heap.size = h := ⟨_, rfl⟩
    rw [hh] at HRM0
    simp only [hh]
    have HH := Lib.hid hh
    clear hh
    obtain ⟨sc, hsc⟩ : ∃ sc, h + 1 = sc := ⟨_, rfl⟩
    rw [hsc] at HRM0
    simp only [hsc]
    clear hsc
    go_cut [12, 13, 14, 15, 16, 17] from 51 to 103 (fun s12 s13 s14 _ _ _ wx => ∃ t, t = runT rs ps ∧ s12 = .string (strOf t.p) ∧ s14 = .int .i64 (t.n : Nat) ∧ t.n ≤ L ∧ t.small t.n m ∧ RM h sc wb s13 t.c t.st wx)
    case first =>
      go_wp2_with fail
      go_loopw [12, 13, 14, 15] (fun s12 s13 s14 x wr => ∃ (j : Nat) (t : R0), x = .int .i64 j ∧ s14 = .int .i64 j ∧ s12 = .string (strOf t.p) ∧ j ≤ L ∧ t.small j m ∧ runGo rs (ps.drop j) t = runT rs ps ∧ RM h sc wb s13 t.c t.st wr) (fun _ _ _ x _ => L - (intOf x).toNat)
      case atStart => exact ⟨0, _, rfl, rfl, rfl, Nat.zero_le _, ⟨by simp, by simp, rfl, start_ok hm8.1⟩, rfl, HRM0.out⟩
      case round =>
        clear HRM0
        obtain ⟨j, t, rfl, rfl, rfl, hj, hsm, hgo, hrm⟩ := hrel
        have HRM := Lib.hid hrm
        have HSM := Lib.hid hsm
        have HRT := Lib.hid (HRTB.out.next (w' := wr) (by rw [HH.out]; exact hrm.b))
        by_cases hlt : j < L
        · have hjl : j < ps.length := by have := HLL.out; omega
          have t0 := HRT.out.t.t.cell 0
          have t1 := HRT.out.t.t.cell 1
          have t2 := HRT.out.t.t.cell 2
          have c3 := hrm.blk.cell 0
          have c4 := hrm.blk.cell 1
          have c5 := hrm.blk.cell 2
          simp only [List.getElem?_toArray, List.getElem?_cons_zero, List.getElem?_cons_succ] at t0 t1 t2 c3 c4 c5
          obtain ⟨pb2, po, rfl, hpb2, hck⟩ := HRT.out.p (by omega)
          have d0 := hck j hjl
          have HDR : Hid (ps.drop j = ps[j]'hjl :: ps.drop (j + 1)) := List.drop_eq_getElem_cons hjl
          have HPJ : Hid (ps[j]? = some (ps[j]'hjl)) := List.getElem?_eq_getElem hjl
          have hgo2 := hgo
          rw [HDR.out] at hgo2
          clear hck
          generalize ps[j]'hjl = kv at *
          obtain ⟨sr, hsr⟩ : ∃ sr, stepS rs t.st kv = sr := ⟨_, rfl⟩
          have hGO : Hid ((if sr.2 then runGo rs (ps.drop (j + 1)) (t.add (ruleOf rs kv) sr.1) else t) = runT rs ps) := by
            unfold Hid; rw [← hgo2, ← hsr]; rfl
          have HSR := Lib.hid hsr
          have HL := Lib.hid hlt
          have hj0 : (0 : Int) ≤ (j : Int) := by omega
          have hjn : (j : Int) < (L : Int) := by omega
          have hql : q < wr.heap.size := Blk.lt HRT.out.t.t
          have hcl : sc < wr.heap.size := hrm.blk.lt
          have HSF := Lib.hid (hsm.2.2.2.fit hm8.2)
          clear hrm hsm hsr hgo hgo2
          obtain ⟨⟨ta, tb, tc⟩, okb⟩ := sr
          go_upto_region 12 with fail
          refine wp_region_mid2 12 0 (by kernel_rfl) (fun y => (Value.agg #[Value.int IntKind.u8 bs, Value.int IntKind.u8 dr, Value.slice A n k]) :: (Value.slice XA xs.length xk) :: (Value.int IntKind.u8 cut) :: (Value.pointer (some ⟨g, 0, none⟩)) :: undef :: undef :: (Value.bool false) :: (Value.bool true) :: (Value.pointer (some ⟨q, 0, none⟩)) :: (Value.slice (some ⟨pb2, po, none⟩) L qk) :: (Value.bool pb) :: (Value.pointer (some ⟨sc, 0, none⟩)) :: (Value.string (strOf t.p)) :: u13 :: (Value.int IntKind.i64 ↑j) :: (Value.int IntKind.i64 ↑j) :: y 10 :: u17 :: (Value.bool true) :: (Value.agg #[Value.int IntKind.u8 bs, Value.int IntKind.u8 dr, Value.slice A n k]) :: (Value.agg #[Value.int IntKind.i64 m, Value.int IntKind.u8 a, Value.slice A2 rs.length k2]) :: (Value.tuple #[Value.slice PA ks.length pk, Value.bool pb]) :: (Value.agg #[Value.int IntKind.i64 m, Value.int IntKind.u8 a, Value.slice A2 rs.length k2]) :: (Value.slice XA xs.length xk) :: (Value.tuple #[Value.slice PA ks.length pk, Value.bool pb]) :: (Value.slice PA ks.length pk) :: (Value.bool pb) :: u27 :: u28 :: u29 :: u30 :: u31 :: u32 :: u33 :: (Value.bool false) :: (Value.slice PA ks.length pk) :: (Value.int IntKind.u8 cut) :: (Value.int IntKind.i64 cut) :: (Value.slice PA ks.length pk) :: (Value.int IntKind.i64 ↑ks.length) :: (Value.int IntKind.i64 (↑ks.length + 1)) :: (Value.int IntKind.i64 ↑r) :: (Value.slice PA r pk) :: (Value.slice PA r pk) :: (Value.int IntKind.u8 cut) :: (Value.int IntKind.i64 cut) :: (Value.int IntKind.i64 ↑l) :: (Value.slice (some ⟨zz0, 0, none⟩) 1 1) :: (Value.slice (some ⟨pb2, po, none⟩) L qk) :: (Value.agg #[Value.int IntKind.i64 0, Value.int IntKind.i64 0, Value.int IntKind.u8 63]) :: (Value.slice (some ⟨h, 0, none⟩) 0 0) :: (Value.int IntKind.i64 ↑j) :: (Value.slice (some ⟨pb2, po, none⟩) L qk) :: (Value.int IntKind.i64 ↑L) :: (Value.bool true) :: u55 :: u56 :: y 7 :: y 0 :: y 1 :: y 2 :: y 3 :: y 4 :: y 5 :: y 6 :: y 8 :: y 9 :: u67 :: u68 :: u69 :: u70 :: u71 :: u72 :: u73 :: u74 :: u75 :: u76 :: u77 :: u78 :: u79 :: u80 :: u81 :: u82 :: u83 :: u84 :: u85 :: u86 :: u87 :: u88 :: u89 :: u90 :: u91 :: u92 :: u93 :: u94 :: u95 :: u96 :: u97 :: u98 :: u99 :: u100 :: u101 :: u102 :: u103 :: undef :: undef :: undef :: undef :: undef :: undef :: undef :: undef :: undef :: undef :: undef :: undef :: undef :: undef :: undef :: undef :: undef :: undef :: undef :: undef :: undef :: []) (stG wr (⟨ta, tb, tc⟩ : St) 10 11) (phiG wr [(.agg #[.int .i64 m, .int .u8 a, .slice A2 rs.length k2]), (.agg #[.int .i64 t.st.mode, .int .i64 t.st.last, .int .u8 t.st.need]), (.slice (some ⟨pb2, po, none⟩) L qk), (.int .i64 j), (.pointer (some ⟨pb2, po + j, none⟩)), (.int .i64 kv), (.tuple #[(⟨ta, tb, tc⟩ : St).val, .bool okb]), (.tuple #[(⟨ta, tb, tc⟩ : St).val, .bool okb]), ((⟨ta, tb, tc⟩ : St).val), (.bool okb), undef] 10) (fun i => match i with | 0 => u58 | 1 => u59 | 2 => u60 | 3 => u61 | 4 => u62 | 5 => u63 | 6 => u64 | 7 => u57 | 8 => u65 | 9 => u66 | 10 => u16 | _ => undef)
            (by kernel_rfl) (by kernel_rfl) (by kernel_rfl) (by kernel_rfl) ?_ [0, 1, 2, 3, 4, 5, 6, 7, 8, 9, 10, 11] (by kernel_rfl) ?_ ?_
          · exact ⟨(Below.refl _ _).drew, fun h => by cases h⟩
          · refine allCons ?_ (allCons ?_ (allCons ?_ (allCons ?_ (allCons ?_ (allCons ?_ (allCons ?_ (allCons ?_ (allCons ?_ (allCons ?_ (allCons ?_ (allCons ?_ (allNil))))))))))))
            all_goals intro bl y w10 K3 hbi hS hd hK3
            · have q0 := (hS.1.cell (p := ⟨q, 0, none⟩) hql).trans t0
              have q1 := (hS.1.cell (p := ⟨q, 1, none⟩) hql).trans t1
              have q2 := (hS.1.cell (p := ⟨q, 2, none⟩) hql).trans t2
              refine wpOp_step rfl (fun K2 hK2 => ?_)
              go_simp
              exact hK2 _ _ (hK3 _ _ (stG_same hS (by decide) (Below.refl _ _)) rfl (fun _ _ h => h))
            · have q3 := (hS.1.cell (p := ⟨sc, 0, none⟩) hcl).trans c3
              have q4 := (hS.1.cell (p := ⟨sc, 1, none⟩) hcl).trans c4
              have q5 := (hS.1.cell (p := ⟨sc, 2, none⟩) hcl).trans c5
              refine wpOp_step rfl (fun K2 hK2 => ?_)
              go_simp
              exact hK2 _ _ (hK3 _ _ (stG_same hS (by decide) (Below.refl _ _)) rfl (fun _ _ h => h))
            · refine wpOp_step rfl (fun K2 hK2 => ?_)
              go_simp
              exact hK2 _ _ (hK3 _ _ (stG_same hS (by decide) (Below.refl _ _)) rfl (fun _ _ h => h))
            · refine wpOp_step rfl (fun K2 hK2 => ?_)
              go_simp
              exact hK2 _ _ (hK3 _ _ (stG_same hS (by decide) (Below.refl _ _)) rfl (fun _ _ h => h))
            · have e2 : y 2 = _ := (hd 2 rfl).2
              have e3 : y 3 = _ := (hd 3 rfl).2
              obtain ⟨y, rfl⟩ := upd_at (y := y) (i := 2) e2
              obtain ⟨y, rfl⟩ := upd_at (y := y) (i := 3) e3
              dsimp [upd]
              refine wpOp_step rfl (fun K2 hK2 => ?_)
              go_simp
              exact hK2 _ _ (hK3 _ _ (stG_same hS (by decide) (Below.refl _ _)) rfl (fun _ _ h => h))
            · have e4 : y 4 = _ := (hd 4 rfl).2
              obtain ⟨y, rfl⟩ := upd_at (y := y) (i := 4) e4
              dsimp [upd]
              have q0 := (hS.1.cell (p := ⟨pb2, po + j, none⟩) hpb2).trans d0
              refine wpOp_step rfl (fun K2 hK2 => ?_)
              go_simp
              exact hK2 _ _ (hK3 _ _ (stG_same hS (by decide) (Below.refl _ _)) rfl (fun _ _ h => h))
            · have e0 : y 0 = _ := (hd 0 rfl).2
              have e1 : y 1 = _ := (hd 1 rfl).2
              have e5 : y 5 = _ := (hd 5 rfl).2
              obtain ⟨y, rfl⟩ := upd_at (y := y) (i := 0) e0
              obtain ⟨y, rfl⟩ := upd_at (y := y) (i := 1) e1
              obtain ⟨y, rfl⟩ := upd_at (y := y) (i := 5) e5
              dsimp [upd]
              refine wpOp_step rfl (fun K2 hK2 => ?_)
              go_simp
              refine (step_any m a A2 rs.length k2 rs t.st kv rfl HSF.out (by omega) w10 (HRT.out.next hS.1).t.r).mono ?_
              rw [HSR.out]
              rintro e' w2 ⟨rfl, hb⟩
              exact hK2 _ _ (hK3 _ _ (stG_same hS (by decide) hb) rfl (fun _ _ h => phiG_below hb h))
            · have e6 : y 6 = _ := (hd 6 rfl).2
              obtain ⟨y, rfl⟩ := upd_at (y := y) (i := 6) e6
              dsimp [upd]
              refine wpOp_step rfl (fun K2 hK2 => ?_)
              go_simp
              exact hK2 _ _ (hK3 _ _ (stG_same hS (by decide) (Below.refl _ _)) rfl (fun _ _ h => h))
            · have e7 : y 7 = _ := (hd 7 rfl).2
              obtain ⟨y, rfl⟩ := upd_at (y := y) (i := 7) e7
              dsimp [upd]
              refine wpOp_step rfl (fun K2 hK2 => ?_)
              go_simp
              exact hK2 _ _ (hK3 _ _ (stG_same hS (by decide) (Below.refl _ _)) rfl (fun _ _ h => h))
            · have e7 : y 7 = _ := (hd 7 rfl).2
              obtain ⟨y, rfl⟩ := upd_at (y := y) (i := 7) e7
              dsimp [upd]
              refine wpOp_step rfl (fun K2 hK2 => ?_)
              go_simp
              exact hK2 _ _ (hK3 _ _ (stG_same hS (by decide) (Below.refl _ _)) rfl (fun _ _ h => h))
            · refine wpOp_step rfl (fun K2 hK2 => ?_)
              go_simp
              exact hK2 _ _ (hK3 _ _ (stG_alloc hS (by decide) hbi _) ⟨_, rfl, hS.1.size, _, _, _, Blk.new _ _ _⟩ (fun _ _ h => phiG_below (below_box _ _ _) h))
            · have e8 : y 8 = .agg #[.int .i64 (⟨ta, tb, tc⟩ : St).mode, .int .i64 (⟨ta, tb, tc⟩ : St).last, .int .u8 (⟨ta, tb, tc⟩ : St).need] := (hd 8 rfl).2
              obtain ⟨hb10, g, e10, hg, za, zb, zc, hB⟩ := hd 10 rfl
              have hS2 := stG_store (v := undef) hS (by decide) hb10 e10 hg hB
              obtain ⟨y, rfl⟩ := upd_at (y := y) (i := 8) e8
              obtain ⟨y, rfl⟩ := upd_at (y := y) (i := 10) e10
              dsimp [upd]
              have d0 := hB.cell 0
              have d1 := hB.cell 1
              have d2 := hB.cell 2
              have f0 := hB.free 0
              have f1 := hB.free 1
              have f2 := hB.free 2
              simp only [List.getElem?_toArray, List.getElem?_cons_zero, List.getElem?_cons_succ] at d0 d1 d2
              refine wpOp_step rfl (fun K2 hK2 => ?_)
              go_simp
              exact hK2 _ _ (hK3 undef _ hS2 trivial (fun _ _ hφ => phiG_store hφ))
          · intro bl y w10 f hall hS hd
            obtain ⟨_, g10, e10, hg10, hB10⟩ := hS.2 (hall 11 (by decide))
            have hb10 := hS.1
            have e9' : y 9 = _ := hd 9 (by decide)
            clear hd hall hS
            obtain ⟨y, rfl⟩ := upd_at (y := y) (i := 9) e9'
            obtain ⟨y, rfl⟩ := upd_at (y := y) (i := 10) e10
            dsimp [upd]
            refine wpAny_one (i := 12) (by kernel_rfl) ?_
            refine wpOp_step rfl (fun K2 hK2 => ?_)
            go_simp
            refine hK2 _ _ ?_
            clear hK2 K2 e9' e10
            refine wpAny_done (by kernel_rfl) ?_ _
            have HR10 := Lib.hid (HRM.out.next hb10)
            have HT10 := Lib.hid (HRT.out.next hb10)
            have HD10 := Lib.hid hB10
            have hgc : g10 ≠ sc := by omega
            clear hb10 hB10 hg10 HRM HRT t0 t1 t2 c3 c4 c5 d0 hql hcl hpb2
            cases okb with
            | false =>
              have HF : Hid (t = runT rs ps) := by unfold Hid; have := hGO.out; simpa using this
              have hnj := HSM.out.2.2.1
              have HNJ := Lib.hid hnj
              clear hGO hnj
              go_upto_region 13 with fail
              go_region
              go_wp2_with fail
              go_meet
              exact ⟨t, HF.out, rfl, by rw [HNJ.out], by have := HNJ.out; omega, by rw [HNJ.out]; exact HSM.out, HR10.out.drew⟩
            | true =>
              obtain ⟨jj, rfl, hjj, hxe⟩ := step_at (rs := rs) (s := t.st) (k := kv) (by rw [HSR.out])
              have hok2 : St.ok ⟨ta, tb, tc⟩ m := by
                have h := step_ok HG.out HFT.out HSM.out.2.2.2 (k := (jj : Int)) (by rw [HSR.out])
                rw [HSR.out] at h; exact h
              have HGO2 : Hid (runGo rs (ps.drop (j + 1)) (t.add rs[jj] ⟨ta, tb, tc⟩) = runT rs ps) := by unfold Hid; have := hGO.out; rw [hxe] at this; simpa using this
              have hxm := List.getElem_mem hjj
              obtain ⟨z1, z2, z3⟩ := sound_sizes HG.out hxm
              have HOK2 := Lib.hid hok2
              obtain ⟨rb, ro, rfl, hrb, hcc⟩ := HT10.out.t.r (by omega)
              obtain ⟨A8, k8, e0, _⟩ := hcc jj hjj
              obtain ⟨hpb2, hpc⟩ := seqN_at2 HT10.out.p hjl
              have d0 : w10.cell? ⟨pb2, po + j, none⟩ = some (.int .i64 (jj : Int)) := by rw [hpc, (List.getElem?_eq_some_iff.1 HPJ.out).2]
              have t2 := HT10.out.t.t.cell 2
              simp only [List.getElem?_toArray, List.getElem?_cons_zero, List.getElem?_cons_succ] at t2
              have hjn2 : (jj : Int) < (rs.length : Int) := by omega
              have hjj0 : (0 : Int) ≤ (jj : Int) := by omega
              have hge : ¬ (rs.length : Int) ≤ (jj : Int) := by omega
              have hsm1 := HSM.out.1
              have hsm2 := HSM.out.2.1
              have HS3 := Lib.hid HSM.out.2.2.1
              have HSS := Lib.hid (strOf_size t.p)
              have hsum : ¬ 9223372036854775807 < (strOf t.p).size + (rs[jj]'hjj).p.size := by have := HSS.out; have := HPL.out; omega
              obtain ⟨x, hx⟩ : ∃ x, rs[jj]'hjj = x := ⟨_, rfl⟩
              rw [hx] at e0 z1 z2 z3 hsum HGO2
              have HXE := Lib.hid hx
              clear hcc hGO hxe hxm hok2 hx hpc
              go_upto_region 13 with fail
              go_region
              have hj4 : j ≤ 4001 := by have := HPL.out; omega
              have hlow := HR10.out.low
              have hhs := HH.out
              have hn1 : ¬ rb = sc := by have := (rules_at HRTB.out.t.r hjj).1; omega
              have hn2 : ¬ pb2 = sc := by have := (seqN_at2 HRTB.out.p hjl).1; omega
              have hn3 : ¬ q = sc := by have := Blk.lt HRTB.out.t.t; omega
              have hn4 : ¬ g10 = sc := hgc
              have hn5 : ¬ sc = rb := fun e => hn1 e.symm
              have hn6 : ¬ sc = pb2 := fun e => hn2 e.symm
              have hn7 : ¬ sc = q := fun e => hn3 e.symm
              have hn8 : ¬ sc = g10 := fun e => hn4 e.symm
              clear hhs
              have a0 := HD10.out.cell 0
              have a1 := HD10.out.cell 1
              have a2 := HD10.out.cell 2
              have c3 := HR10.out.blk.cell 0
              have c4 := HR10.out.blk.cell 1
              have c5 := HR10.out.blk.cell 2
              have f3 := HR10.out.blk.free 0
              have f4 := HR10.out.blk.free 1
              have f5 := HR10.out.blk.free 2
              simp only [List.getElem?_toArray, List.getElem?_cons_zero, List.getElem?_cons_succ] at a0 a1 a2 c3 c4 c5
              go_upto_region 14 with fail
              go_region
              have HR11 : Hid (RM h sc wb u13 t.c ⟨ta, tb, tc⟩ (((w10.setCell ⟨sc, 0, none⟩ (.int .i64 ta)).setCell ⟨sc, 1, none⟩ (.int .i64 tb)).setCell ⟨sc, 2, none⟩ (.int .u8 tc)).drew.drew) := (HR10.out.put (t := ⟨ta, tb, tc⟩)).drew.drew
              clear a0 a1 a2 c3 c4 c5 f3 f4 f5 hn1 hn2 hn3 hn4 hn5 hn6 hn7 hn8 hlow hgc e0 d0 t2 HR10 HT10 HD10 hpb2 hrb hsum HSS
              generalize (((w10.setCell ⟨sc, 0, none⟩ (.int .i64 ta)).setCell ⟨sc, 1, none⟩ (.int .i64 tb)).setCell ⟨sc, 2, none⟩ (.int .u8 tc)).drew.drew = w11 at *
              have HR11d := Lib.hid HR11.out.drew
              have HT11 := Lib.hid (HRTB.out.next (w' := w11) (by rw [HH.out]; exact HR11.out.b))
              obtain ⟨hB, hra⟩ := rules_at HT11.out.t.r hjj
              rw [HXE.out] at hra
              obtain ⟨A9, k9, _, e1, _, _, _, _, hsq, _⟩ := hra
              obtain ⟨bx, ox, e9, hbx, hcx⟩ := hsq (by omega)
              subst e9
              obtain ⟨hpb2, hpc⟩ := seqN_at2 HT11.out.p hjl
              have d0 : w11.cell? ⟨pb2, po + j, none⟩ = some (.int .i64 (jj : Int)) := by rw [hpc, (List.getElem?_eq_some_iff.1 HPJ.out).2]
              have t2 := HT11.out.t.t.cell 2
              simp only [List.getElem?_toArray, List.getElem?_cons_zero, List.getElem?_cons_succ] at t2
              have HNW : Hid (∀ (i : Nat) (u : Value), (x.c.map (Value.int .u8))[i]? = some u → w11.drew.cell? ((⟨bx, ox, none⟩ : Addr).add i) = some u) := fun i u hu => by
                rw [List.getElem?_map] at hu
                cases hi : x.c[i]? with
                | none => rw [hi] at hu; cases hu
                | some z =>
                  rw [hi] at hu
                  injection hu with hu
                  have hil := (List.getElem?_eq_some_iff.1 hi)
                  rw [plain_add, ← hu, ← hil.2]
                  exact hcx i hil.1
              clear hcx hsq hpc
              obtain ⟨i2, hc1', hc2, hc3, hc4⟩ := info_parts info_cell
              have s1 : Hid (w11.drew.ownsRow h 64 1 u13 t.c.length (t.c.map (Value.int .u8))) := HR11d.out.own
              have s2 : Hid (h ≤ w11.drew.heap.size) := Nat.le_of_lt HR11d.out.size
              have hcl2 : t.c.length + x.c.length ≤ 16008 := by omega
              go_wp2_with fail
              go_region_law (refine step_append_own rfl (.tmp 93) (.tmp 102) 39 rfl h 64 i2 (.int .u8 0) 1 1 Try.underlying39 hc1' hc2 hc3 hc4 rfl (by decide) u13 t.c.length (t.c.map (Value.int .u8)) (by simp [Act.eval]) s1.out ⟨bx, ox, none⟩ x.c.length k9 (x.c.map (Value.int .u8)) (by simp [Act.eval]) (by simp) HNW.out (ints_oneCell .u8 x.c) (by unfold maxLen; omega) (by omega) s2.out ?_; intro v' w' h1' h2')
              all_goals
                have HR12 := Lib.hid (RM.grow HR11d.out h2' h1')
                clear h1' h2' s1 s2 HNW HR11 HR11d HT11 d0 t2 e1
                go_wp2_with fail
                refine ⟨⟨j + 1, t.add x ⟨ta, tb, tc⟩, by go_num, by go_num, ?_, HL.out, ⟨?_, ?_, ?_, HOK2.out⟩, HGO2.out, HR12.out⟩, ?_⟩
                · show Value.string _ = .string (strOf (t.p ++ (bytes x.p).map fun b : Nat => (b : Int)))
                  rw [strOf_app]
                · show (t.p ++ (bytes x.p).map fun b : Nat => (b : Int)).length ≤ _
                  rw [List.length_append, List.length_map, bytes_len]; omega
                · show (t.c ++ x.c).length ≤ _
                  rw [List.length_append]; omega
                · show t.n + 1 = j + 1
                  have := HS3.out; omega
                · have := HL.out; simp [intOf]; omega
        · have hje : j = L := by omega
          have HF : Hid (t = runT rs ps) := by
            unfold Hid
            rw [← hgo, List.drop_eq_nil_of_le (by have := HLL.out; omega)]; rfl
          have HNJ := Lib.hid hsm.2.2.1
          clear hgo hrm hsm
          go_wp2_with fail
          go_meet
          exact ⟨t, HF.out, rfl, by rw [HNJ.out], by have := HNJ.out; omega, by rw [HNJ.out]; exact HSM.out, HRM.out⟩
    case rest =>
      obtain ⟨t, ht, rfl, rfl, hnle, hsm, hrm⟩ := hcut
      subst ht
      have HRM := Lib.hid hrm
      have HSM := Lib.hid hsm
      have HRT := Lib.hid (HRTB.out.next (w' := wc) (by rw [HH.out]; exact hrm.b))
      have BW : Hid (Below w.heap.size w wc) := BB.out.trans (hrm.b.mono (by have := BB.out.size; have := HH.out; omega))
      have t0 := HRT.out.t.t.cell 0
      have t1 := HRT.out.t.t.cell 1
      have t2 := HRT.out.t.t.cell 2
      have c3 := hrm.blk.cell 0
      have c4 := hrm.blk.cell 1
      have c5 := hrm.blk.cell 2
      simp only [List.getElem?_toArray, List.getElem?_cons_zero, List.getElem?_cons_succ] at t0 t1 t2 c3 c4 c5
      have hql : q < wc.heap.size := Blk.lt HRT.out.t.t
      have hcl : sc < wc.heap.size := hrm.blk.lt
      obtain ⟨CB, cl, rfl⟩ := own_shape hrm.own
      have HSF := Lib.hid (hsm.2.2.2.fit hm8.2)
      have hcn : (runT rs ps).c.length ≤ 16004 := by have := hsm.2.1; have := HPL.out; omega
      clear hrm hsm HRM0
      by_cases hnl : (runT rs ps).n = L
      · have HNL := Lib.hid hnl
        have hbe : ((((runT rs ps).n : Nat) : Int) == (L : Int)) = true := by rw [hnl]; exact beq_self_eq_true _
        clear hnl
        have HOK : Hid (runOk a rs ps = accB a (runT rs ps).st) := by
          unfold Hid runOk
          rw [decide_eq_true (by rw [HLL.out]; exact HNL.out)]; rfl
        go_upto_region 16 with fail
        refine wp_region_head 21 0 (by kernel_rfl) (fun y => (Value.agg #[Value.int IntKind.u8 bs, Value.int IntKind.u8 dr, Value.slice A n k]) :: (Value.slice XA xs.length xk) :: (Value.int IntKind.u8 cut) :: (Value.pointer (some ⟨g, 0, none⟩)) :: undef :: undef :: (Value.bool false) :: (Value.bool true) :: (Value.pointer (some ⟨q, 0, none⟩)) :: (Value.slice QA L qk) :: (Value.bool pb) :: (Value.pointer (some ⟨sc, 0, none⟩)) :: (Value.string (strOf (runT rs ps).p)) :: (Value.slice CB (runT rs ps).c.length cl) :: (Value.int IntKind.i64 ↑(runT rs ps).n) :: u15 :: u16 :: u17 :: (Value.bool true) :: (Value.agg #[Value.int IntKind.u8 bs, Value.int IntKind.u8 dr, Value.slice A n k]) :: (Value.agg #[Value.int IntKind.i64 m, Value.int IntKind.u8 a, Value.slice A2 rs.length k2]) :: (Value.tuple #[Value.slice PA ks.length pk, Value.bool pb]) :: (Value.agg #[Value.int IntKind.i64 m, Value.int IntKind.u8 a, Value.slice A2 rs.length k2]) :: (Value.slice XA xs.length xk) :: (Value.tuple #[Value.slice PA ks.length pk, Value.bool pb]) :: (Value.slice PA ks.length pk) :: (Value.bool pb) :: u27 :: u28 :: u29 :: u30 :: u31 :: u32 :: u33 :: (Value.bool false) :: (Value.slice PA ks.length pk) :: (Value.int IntKind.u8 cut) :: (Value.int IntKind.i64 cut) :: (Value.slice PA ks.length pk) :: (Value.int IntKind.i64 ↑ks.length) :: (Value.int IntKind.i64 (↑ks.length + 1)) :: (Value.int IntKind.i64 ↑r) :: (Value.slice PA r pk) :: (Value.slice PA r pk) :: (Value.int IntKind.u8 cut) :: (Value.int IntKind.i64 cut) :: (Value.int IntKind.i64 ↑l) :: (Value.slice (some ⟨zz0, 0, none⟩) 1 1) :: (Value.slice QA L qk) :: (Value.agg #[Value.int IntKind.i64 0, Value.int IntKind.i64 0, Value.int IntKind.u8 63]) :: (Value.slice (some ⟨h, 0, none⟩) 0 0) :: u51 :: u52 :: u53 :: u54 :: u55 :: u56 :: u57 :: u58 :: u59 :: u60 :: u61 :: u62 :: u63 :: u64 :: u65 :: u66 :: u67 :: u68 :: u69 :: u70 :: u71 :: u72 :: u73 :: u74 :: u75 :: u76 :: u77 :: u78 :: u79 :: u80 :: u81 :: u82 :: u83 :: u84 :: u85 :: u86 :: u87 :: u88 :: u89 :: u90 :: u91 :: u92 :: u93 :: u94 :: u95 :: u96 :: u97 :: u98 :: u99 :: u100 :: u101 :: u102 :: u103 :: y 0 :: y 1 :: y 2 :: y 3 :: y 4 :: y 5 :: y 6 :: y 7 :: y 8 :: y 9 :: y 10 :: y 11 :: y 12 :: y 13 :: y 14 :: y 15 :: y 16 :: y 17 :: y 18 :: y 19 :: y 20 :: [])
          (fun _ w' => Below wc.heap.size wc w') (phiP [pv (.agg #[.int .i64 m, .int .u8 a, .slice A2 rs.length k2]), pv (.slice QA L qk), pq (fun (z : Option Addr × Nat) => runW (accB a (runT rs ps).st) rs ps z) (fun (z : Option Addr × Nat) w => Seq w w.heap.size z.1 (runT rs ps).c), pv (.string (strOf (runT rs ps).p)), pv (.slice CB (runT rs ps).c.length cl), pv (.int .i64 (((runT rs ps).n : Nat) : Int)), pv (.agg #[.int .i64 (runT rs ps).st.mode, .int .i64 (runT rs ps).st.last, .int .u8 (runT rs ps).st.need]), pv (.int .i64 (((runT rs ps).n : Nat) : Int)), pv (.slice QA L qk), pv (.int .i64 L), pv (.bool true), pv (.bool true), pv (.agg #[.int .i64 m, .int .u8 a, .slice A2 rs.length k2]), pv (.agg #[.int .i64 (runT rs ps).st.mode, .int .i64 (runT rs ps).st.last, .int .u8 (runT rs ps).st.need]), pv (.bool (accB a (runT rs ps).st)), pv (.bool (accB a (runT rs ps).st)), pv (.agg #[.string (strOf (runT rs ps).p), .slice CB (runT rs ps).c.length cl, .int .i64 (((runT rs ps).n : Nat) : Int), .int .i64 (runT rs ps).st.mode, .int .i64 (runT rs ps).st.last, .int .u8 (runT rs ps).st.need, .bool (accB a (runT rs ps).st)]), pv (.bool true), pv (.bool true), pv (.bool true), pv (.bool true)]) (fun i => match i with | 0 => undef | 1 => undef | 2 => undef | 3 => undef | 4 => undef | 5 => undef | 6 => undef | 7 => undef | 8 => undef | 9 => undef | 10 => undef | 11 => undef | 12 => undef | 13 => undef | 14 => undef | 15 => undef | 16 => undef | 17 => undef | 18 => undef | 19 => undef | 20 => undef | _ => undef)
          (by kernel_rfl) (by kernel_rfl) (by kernel_rfl) (by kernel_rfl) (fun i v wa wb h hb => phiP_keep (stay_cons (pv_st) (stay_cons (pv_st) (stay_cons (pq_st (fun z w w' h hb => h.up hb)) (stay_cons (pv_st) (stay_cons (pv_st) (stay_cons (pv_st) (stay_cons (pv_st) (stay_cons (pv_st) (stay_cons (pv_st) (stay_cons (pv_st) (stay_cons (pv_st) (stay_cons (pv_st) (stay_cons (pv_st) (stay_cons (pv_st) (stay_cons (pv_st) (stay_cons (pv_st) (stay_cons (pv_st) (stay_cons (pv_st) (stay_cons (pv_st) (stay_cons (pv_st) (stay_cons (pv_st) stay_nil))))))))))))))))))))) h hb) (Below.refl _ _).drew [0, 1, 2, 3, 4, 5, 6, 7, 8, 9, 10, 11, 12, 13, 14, 15, 16, 17, 18, 19, 20] (by kernel_rfl) ?_ ?_
        · refine allCons ?_ (allCons ?_ (allCons ?_ (allCons ?_ (allCons ?_ (allCons ?_ (allCons ?_ (allCons ?_ (allCons ?_ (allCons ?_ (allCons ?_ (allCons ?_ (allCons ?_ (allCons ?_ (allCons ?_ (allCons ?_ (allCons ?_ (allCons ?_ (allCons ?_ (allCons ?_ (allCons ?_ (allNil)))))))))))))))))))))
          all_goals intro y w10 K hS hd hK
          · have q0 := (hS.cell (p := ⟨q, 0, none⟩) hql).trans t0
            have q1 := (hS.cell (p := ⟨q, 1, none⟩) hql).trans t1
            have q2 := (hS.cell (p := ⟨q, 2, none⟩) hql).trans t2
            refine wpOp_step rfl (fun K2 hK2 => ?_)
            go_simp
            exact hK2 _ _ (hK _ _ hS rfl (Below.refl _ _))
          · refine wpOp_step rfl (fun K2 hK2 => ?_)
            go_simp
            exact hK2 _ _ (hK _ _ hS rfl (Below.refl _ _))
          · have e0 : y 0 = _ := hd 0 rfl
            have e1 : y 1 = _ := hd 1 rfl
            obtain ⟨y, rfl⟩ := upd_at (y := y) (i := 0) e0
            obtain ⟨y, rfl⟩ := upd_at (y := y) (i := 1) e1
            dsimp [upd]
            refine wpOp_step rfl (fun K2 hK2 => ?_)
            go_simp
            refine (run_any m a A2 rs.length k2 rs QA L qk ps w10 rfl (HRT.out.next hS).t.r HG.out hmax hm8 ha HLL.out (HRT.out.next hS).p (by have := HPL.out; omega)).mono ?_
            rintro e' w' ⟨CA, ck, rfl, hq, hb⟩
            rw [HOK.out]
            exact hK2 _ _ (hK _ _ (below_next hS hb) ⟨(CA, ck), rfl, hq⟩ hb)
          · refine wpOp_step rfl (fun K2 hK2 => ?_)
            go_simp
            exact hK2 _ _ (hK _ _ hS rfl (Below.refl _ _))
          · refine wpOp_step rfl (fun K2 hK2 => ?_)
            go_simp
            exact hK2 _ _ (hK _ _ hS rfl (Below.refl _ _))
          · refine wpOp_step rfl (fun K2 hK2 => ?_)
            go_simp
            exact hK2 _ _ (hK _ _ hS rfl (Below.refl _ _))
          · have q0 := (hS.cell (p := ⟨sc, 0, none⟩) hcl).trans c3
            have q1 := (hS.cell (p := ⟨sc, 1, none⟩) hcl).trans c4
            have q2 := (hS.cell (p := ⟨sc, 2, none⟩) hcl).trans c5
            refine wpOp_step rfl (fun K2 hK2 => ?_)
            go_simp
            exact hK2 _ _ (hK _ _ hS rfl (Below.refl _ _))
          · refine wpOp_step rfl (fun K2 hK2 => ?_)
            go_simp
            exact hK2 _ _ (hK _ _ hS rfl (Below.refl _ _))
          · refine wpOp_step rfl (fun K2 hK2 => ?_)
            go_simp
            exact hK2 _ _ (hK _ _ hS rfl (Below.refl _ _))
          · have e8 : y 8 = _ := hd 8 rfl
            obtain ⟨y, rfl⟩ := upd_at (y := y) (i := 8) e8
            dsimp [upd]
            refine wpOp_step rfl (fun K2 hK2 => ?_)
            go_simp
            exact hK2 _ _ (hK _ _ hS rfl (Below.refl _ _))
          · have e7 : y 7 = _ := hd 7 rfl
            have e9 : y 9 = _ := hd 9 rfl
            obtain ⟨y, rfl⟩ := upd_at (y := y) (i := 7) e7
            obtain ⟨y, rfl⟩ := upd_at (y := y) (i := 9) e9
            dsimp [upd]
            refine wpOp_step rfl (fun K2 hK2 => ?_)
            go_simp
            exact hK2 _ _ (hK _ _ hS rfl (Below.refl _ _))
          · have e10 : y 10 = _ := hd 10 rfl
            obtain ⟨y, rfl⟩ := upd_at (y := y) (i := 10) e10
            dsimp [upd]
            refine wpOp_step rfl (fun K2 hK2 => ?_)
            go_simp
            exact hK2 _ _ (hK _ _ hS rfl (Below.refl _ _))
          · have e11 : y 11 = _ := hd 11 rfl
            obtain ⟨y, rfl⟩ := upd_at (y := y) (i := 11) e11
            dsimp [upd]
            have q0 := (hS.cell (p := ⟨q, 0, none⟩) hql).trans t0
            have q1 := (hS.cell (p := ⟨q, 1, none⟩) hql).trans t1
            have q2 := (hS.cell (p := ⟨q, 2, none⟩) hql).trans t2
            refine wpOp_step rfl (fun K2 hK2 => ?_)
            go_simp
            exact hK2 _ _ (hK _ _ hS rfl (Below.refl _ _))
          · have e11 : y 11 = _ := hd 11 rfl
            obtain ⟨y, rfl⟩ := upd_at (y := y) (i := 11) e11
            dsimp [upd]
            have q0 := (hS.cell (p := ⟨sc, 0, none⟩) hcl).trans c3
            have q1 := (hS.cell (p := ⟨sc, 1, none⟩) hcl).trans c4
            have q2 := (hS.cell (p := ⟨sc, 2, none⟩) hcl).trans c5
            refine wpOp_step rfl (fun K2 hK2 => ?_)
            go_simp
            exact hK2 _ _ (hK _ _ hS rfl (Below.refl _ _))
          · have e11 : y 11 = _ := hd 11 rfl
            have e12 : y 12 = _ := hd 12 rfl
            have e13 : y 13 = _ := hd 13 rfl
            obtain ⟨y, rfl⟩ := upd_at (y := y) (i := 11) e11
            obtain ⟨y, rfl⟩ := upd_at (y := y) (i := 12) e12
            obtain ⟨y, rfl⟩ := upd_at (y := y) (i := 13) e13
            dsimp [upd]
            refine wpOp_step rfl (fun K2 hK2 => ?_)
            go_simp
            refine (accepts_any m a A2 rs.length k2 (runT rs ps).st ha HSF.out w10).mono ?_
            rintro e' w' ⟨rfl, hb⟩
            exact hK2 _ _ (hK _ _ (below_next hS hb) rfl hb)
          · have e11 : y 11 = _ := hd 11 rfl
            have e14 : y 14 = _ := hd 14 rfl
            obtain ⟨y, rfl⟩ := upd_at (y := y) (i := 11) e11
            obtain ⟨y, rfl⟩ := upd_at (y := y) (i := 14) e14
            dsimp [upd]
            refine wpOp_step rfl (fun K2 hK2 => ?_)
            go_simp
            exact hK2 _ _ (hK _ _ hS rfl (Below.refl _ _))
          · have e3 : y 3 = _ := hd 3 rfl
            have e4 : y 4 = _ := hd 4 rfl
            have e5 : y 5 = _ := hd 5 rfl
            have e6 : y 6 = _ := hd 6 rfl
            have e15 : y 15 = _ := hd 15 rfl
            obtain ⟨y, rfl⟩ := upd_at (y := y) (i := 3) e3
            obtain ⟨y, rfl⟩ := upd_at (y := y) (i := 4) e4
            obtain ⟨y, rfl⟩ := upd_at (y := y) (i := 5) e5
            obtain ⟨y, rfl⟩ := upd_at (y := y) (i := 6) e6
            obtain ⟨y, rfl⟩ := upd_at (y := y) (i := 15) e15
            dsimp [upd]
            refine wpOp_step rfl (fun K2 hK2 => ?_)
            go_simp
            exact hK2 _ _ (hK _ _ hS rfl (Below.refl _ _))
          · obtain ⟨⟨CA, ck⟩, e2, hqa⟩ := hd 2 rfl
            have e16 : y 16 = _ := hd 16 rfl
            obtain ⟨y, rfl⟩ := upd_at (y := y) (i := 2) e2
            obtain ⟨y, rfl⟩ := upd_at (y := y) (i := 16) e16
            dsimp [upd]
            refine wpOp_step rfl (fun K2 hK2 => ?_)
            go_simp
            refine (same_any (strOf (runT rs ps).p) CA CB (runT rs ps).c.length ck cl (runT rs ps).c _ _ _ _ _ w10 rfl hqa (own_seqT (own_keep HRM.out.own hS)).seq (by omega)).mono ?_
            rintro e' w' ⟨rfl, hb⟩
            exact hK2 _ _ (hK _ _ (below_next hS hb) rfl hb)
          · have e17 : y 17 = _ := hd 17 rfl
            obtain ⟨y, rfl⟩ := upd_at (y := y) (i := 17) e17
            dsimp [upd]
            refine wpOp_step rfl (fun K2 hK2 => ?_)
            go_simp
            exact hK2 _ _ (hK _ _ hS rfl (Below.refl _ _))
          · have e18 : y 18 = _ := hd 18 rfl
            obtain ⟨y, rfl⟩ := upd_at (y := y) (i := 18) e18
            dsimp [upd]
            refine wpOp_step rfl (fun K2 hK2 => ?_)
            go_simp
            exact hK2 _ _ (hK _ _ hS rfl (Below.refl _ _))
          · have e18 : y 18 = _ := hd 18 rfl
            have e19 : y 19 = _ := hd 19 rfl
            obtain ⟨y, rfl⟩ := upd_at (y := y) (i := 18) e18
            obtain ⟨y, rfl⟩ := upd_at (y := y) (i := 19) e19
            dsimp [upd]
            refine wpOp_step rfl (fun K2 hK2 => ?_)
            go_simp
            exact hK2 _ _ (hK _ _ hS rfl (Below.refl _ _))
        · intro y w10 f hS hd
          have e20 : y 20 = _ := hd 20 (by decide)
          clear hd
          have BF : Hid (Below w.heap.size w w10) := below_next BW.out hS
          obtain ⟨y, rfl⟩ := upd_at (y := y) (i := 20) e20
          dsimp [upd]
          refine wpAny_one (i := 21) (by kernel_rfl) ?_
          refine wpOp_step rfl (fun K2 hK2 => ?_)
          go_simp
          refine hK2 _ _ ?_
          clear hK2 K2 e20
          refine wpAny_done (by kernel_rfl) ?_ _
          clear t0 t1 t2 c3 c4 c5
          go_wp2_with fail
          go_ret
          first | exact ⟨rfl, BF.out⟩ | exact ⟨rfl, by rw [← hg]; exact BF.out⟩
      · have HNL := Lib.hid hnl
        have hbe : ((((runT rs ps).n : Nat) : Int) == (L : Int)) = false := by
          rw [beq_eq_false_iff_ne]; intro e; exact hnl (Int.ofNat.inj e)
        clear hnl
        have HOK : Hid (runOk a rs ps = false) := by
          unfold Hid runOk
          rw [decide_eq_false (by rw [HLL.out]; exact HNL.out)]; rfl
        go_upto_region 16 with fail
        refine wp_region_head 21 0 (by kernel_rfl) (fun y => (Value.agg #[Value.int IntKind.u8 bs, Value.int IntKind.u8 dr, Value.slice A n k]) :: (Value.slice XA xs.length xk) :: (Value.int IntKind.u8 cut) :: (Value.pointer (some ⟨g, 0, none⟩)) :: undef :: undef :: (Value.bool false) :: (Value.bool true) :: (Value.pointer (some ⟨q, 0, none⟩)) :: (Value.slice QA L qk) :: (Value.bool pb) :: (Value.pointer (some ⟨sc, 0, none⟩)) :: (Value.string (strOf (runT rs ps).p)) :: (Value.slice CB (runT rs ps).c.length cl) :: (Value.int IntKind.i64 ↑(runT rs ps).n) :: u15 :: u16 :: u17 :: (Value.bool true) :: (Value.agg #[Value.int IntKind.u8 bs, Value.int IntKind.u8 dr, Value.slice A n k]) :: (Value.agg #[Value.int IntKind.i64 m, Value.int IntKind.u8 a, Value.slice A2 rs.length k2]) :: (Value.tuple #[Value.slice PA ks.length pk, Value.bool pb]) :: (Value.agg #[Value.int IntKind.i64 m, Value.int IntKind.u8 a, Value.slice A2 rs.length k2]) :: (Value.slice XA xs.length xk) :: (Value.tuple #[Value.slice PA ks.length pk, Value.bool pb]) :: (Value.slice PA ks.length pk) :: (Value.bool pb) :: u27 :: u28 :: u29 :: u30 :: u31 :: u32 :: u33 :: (Value.bool false) :: (Value.slice PA ks.length pk) :: (Value.int IntKind.u8 cut) :: (Value.int IntKind.i64 cut) :: (Value.slice PA ks.length pk) :: (Value.int IntKind.i64 ↑ks.length) :: (Value.int IntKind.i64 (↑ks.length + 1)) :: (Value.int IntKind.i64 ↑r) :: (Value.slice PA r pk) :: (Value.slice PA r pk) :: (Value.int IntKind.u8 cut) :: (Value.int IntKind.i64 cut) :: (Value.int IntKind.i64 ↑l) :: (Value.slice (some ⟨zz0, 0, none⟩) 1 1) :: (Value.slice QA L qk) :: (Value.agg #[Value.int IntKind.i64 0, Value.int IntKind.i64 0, Value.int IntKind.u8 63]) :: (Value.slice (some ⟨h, 0, none⟩) 0 0) :: u51 :: u52 :: u53 :: u54 :: u55 :: u56 :: u57 :: u58 :: u59 :: u60 :: u61 :: u62 :: u63 :: u64 :: u65 :: u66 :: u67 :: u68 :: u69 :: u70 :: u71 :: u72 :: u73 :: u74 :: u75 :: u76 :: u77 :: u78 :: u79 :: u80 :: u81 :: u82 :: u83 :: u84 :: u85 :: u86 :: u87 :: u88 :: u89 :: u90 :: u91 :: u92 :: u93 :: u94 :: u95 :: u96 :: u97 :: u98 :: u99 :: u100 :: u101 :: u102 :: u103 :: y 0 :: y 1 :: y 2 :: y 3 :: y 4 :: y 5 :: y 6 :: y 7 :: y 8 :: y 9 :: y 10 :: y 11 :: y 12 :: y 13 :: y 14 :: y 15 :: y 16 :: y 17 :: y 18 :: y 19 :: y 20 :: [])
          (fun _ w' => Below wc.heap.size wc w') (phiP [pv (.agg #[.int .i64 m, .int .u8 a, .slice A2 rs.length k2]), pv (.slice QA L qk), pq (fun (z : Option Addr × Nat) => runW false rs ps z) (fun (z : Option Addr × Nat) w => Seq w w.heap.size z.1 (runT rs ps).c), pv (.string (strOf (runT rs ps).p)), pv (.slice CB (runT rs ps).c.length cl), pv (.int .i64 (((runT rs ps).n : Nat) : Int)), pv (.agg #[.int .i64 (runT rs ps).st.mode, .int .i64 (runT rs ps).st.last, .int .u8 (runT rs ps).st.need]), pv (.int .i64 (((runT rs ps).n : Nat) : Int)), pv (.slice QA L qk), pv (.int .i64 L), pv (.bool false), pv (.bool false), pv (undef), pv (undef), pv (undef), pv (.bool false), pv (.agg #[.string (strOf (runT rs ps).p), .slice CB (runT rs ps).c.length cl, .int .i64 (((runT rs ps).n : Nat) : Int), .int .i64 (runT rs ps).st.mode, .int .i64 (runT rs ps).st.last, .int .u8 (runT rs ps).st.need, .bool false]), pv (.bool true), pv (.bool true), pv (.bool true), pv (.bool true)]) (fun i => match i with | 0 => undef | 1 => undef | 2 => undef | 3 => undef | 4 => undef | 5 => undef | 6 => undef | 7 => undef | 8 => undef | 9 => undef | 10 => undef | 11 => undef | 12 => undef | 13 => undef | 14 => undef | 15 => undef | 16 => undef | 17 => undef | 18 => undef | 19 => undef | 20 => undef | _ => undef)
          (by kernel_rfl) (by kernel_rfl) (by kernel_rfl) (by kernel_rfl) (fun i v wa wb h hb => phiP_keep (stay_cons (pv_st) (stay_cons (pv_st) (stay_cons (pq_st (fun z w w' h hb => h.up hb)) (stay_cons (pv_st) (stay_cons (pv_st) (stay_cons (pv_st) (stay_cons (pv_st) (stay_cons (pv_st) (stay_cons (pv_st) (stay_cons (pv_st) (stay_cons (pv_st) (stay_cons (pv_st) (stay_cons (pv_st) (stay_cons (pv_st) (stay_cons (pv_st) (stay_cons (pv_st) (stay_cons (pv_st) (stay_cons (pv_st) (stay_cons (pv_st) (stay_cons (pv_st) (stay_cons (pv_st) stay_nil))))))))))))))))))))) h hb) (Below.refl _ _).drew [0, 1, 2, 3, 4, 5, 6, 7, 8, 9, 10, 11, 12, 13, 14, 15, 16, 17, 18, 19, 20] (by kernel_rfl) ?_ ?_
        · refine allCons ?_ (allCons ?_ (allCons ?_ (allCons ?_ (allCons ?_ (allCons ?_ (allCons ?_ (allCons ?_ (allCons ?_ (allCons ?_ (allCons ?_ (allCons ?_ (allCons ?_ (allCons ?_ (allCons ?_ (allCons ?_ (allCons ?_ (allCons ?_ (allCons ?_ (allCons ?_ (allCons ?_ (allNil)))))))))))))))))))))
          all_goals intro y w10 K hS hd hK
          · have q0 := (hS.cell (p := ⟨q, 0, none⟩) hql).trans t0
            have q1 := (hS.cell (p := ⟨q, 1, none⟩) hql).trans t1
            have q2 := (hS.cell (p := ⟨q, 2, none⟩) hql).trans t2
            refine wpOp_step rfl (fun K2 hK2 => ?_)
            go_simp
            exact hK2 _ _ (hK _ _ hS rfl (Below.refl _ _))
          · refine wpOp_step rfl (fun K2 hK2 => ?_)
            go_simp
            exact hK2 _ _ (hK _ _ hS rfl (Below.refl _ _))
          · have e0 : y 0 = _ := hd 0 rfl
            have e1 : y 1 = _ := hd 1 rfl
            obtain ⟨y, rfl⟩ := upd_at (y := y) (i := 0) e0
            obtain ⟨y, rfl⟩ := upd_at (y := y) (i := 1) e1
            dsimp [upd]
            refine wpOp_step rfl (fun K2 hK2 => ?_)
            go_simp
            refine (run_any m a A2 rs.length k2 rs QA L qk ps w10 rfl (HRT.out.next hS).t.r HG.out hmax hm8 ha HLL.out (HRT.out.next hS).p (by have := HPL.out; omega)).mono ?_
            rintro e' w' ⟨CA, ck, rfl, hq, hb⟩
            rw [HOK.out]
            exact hK2 _ _ (hK _ _ (below_next hS hb) ⟨(CA, ck), rfl, hq⟩ hb)
          · refine wpOp_step rfl (fun K2 hK2 => ?_)
            go_simp
            exact hK2 _ _ (hK _ _ hS rfl (Below.refl _ _))
          · refine wpOp_step rfl (fun K2 hK2 => ?_)
            go_simp
            exact hK2 _ _ (hK _ _ hS rfl (Below.refl _ _))
          · refine wpOp_step rfl (fun K2 hK2 => ?_)
            go_simp
            exact hK2 _ _ (hK _ _ hS rfl (Below.refl _ _))
          · have q0 := (hS.cell (p := ⟨sc, 0, none⟩) hcl).trans c3
            have q1 := (hS.cell (p := ⟨sc, 1, none⟩) hcl).trans c4
            have q2 := (hS.cell (p := ⟨sc, 2, none⟩) hcl).trans c5
            refine wpOp_step rfl (fun K2 hK2 => ?_)
            go_simp
            exact hK2 _ _ (hK _ _ hS rfl (Below.refl _ _))
          · refine wpOp_step rfl (fun K2 hK2 => ?_)
            go_simp
            exact hK2 _ _ (hK _ _ hS rfl (Below.refl _ _))
          · refine wpOp_step rfl (fun K2 hK2 => ?_)
            go_simp
            exact hK2 _ _ (hK _ _ hS rfl (Below.refl _ _))
          · have e8 : y 8 = _ := hd 8 rfl
            obtain ⟨y, rfl⟩ := upd_at (y := y) (i := 8) e8
            dsimp [upd]
            refine wpOp_step rfl (fun K2 hK2 => ?_)
            go_simp
            exact hK2 _ _ (hK _ _ hS rfl (Below.refl _ _))
          · have e7 : y 7 = _ := hd 7 rfl
            have e9 : y 9 = _ := hd 9 rfl
            obtain ⟨y, rfl⟩ := upd_at (y := y) (i := 7) e7
            obtain ⟨y, rfl⟩ := upd_at (y := y) (i := 9) e9
            dsimp [upd]
            refine wpOp_step rfl (fun K2 hK2 => ?_)
            go_simp
            exact hK2 _ _ (hK _ _ hS rfl (Below.refl _ _))
          · have e10 : y 10 = _ := hd 10 rfl
            obtain ⟨y, rfl⟩ := upd_at (y := y) (i := 10) e10
            dsimp [upd]
            refine wpOp_step rfl (fun K2 hK2 => ?_)
            go_simp
            exact hK2 _ _ (hK _ _ hS rfl (Below.refl _ _))
          · have e11 : y 11 = _ := hd 11 rfl
            obtain ⟨y, rfl⟩ := upd_at (y := y) (i := 11) e11
            dsimp [upd]
            refine wpOp_step rfl (fun K2 hK2 => ?_)
            go_simp
            exact hK2 _ _ (hK _ _ hS rfl (Below.refl _ _))
          · have e11 : y 11 = _ := hd 11 rfl
            obtain ⟨y, rfl⟩ := upd_at (y := y) (i := 11) e11
            dsimp [upd]
            refine wpOp_step rfl (fun K2 hK2 => ?_)
            go_simp
            exact hK2 _ _ (hK _ _ hS rfl (Below.refl _ _))
          · have e11 : y 11 = _ := hd 11 rfl
            obtain ⟨y, rfl⟩ := upd_at (y := y) (i := 11) e11
            dsimp [upd]
            refine wpOp_step rfl (fun K2 hK2 => ?_)
            go_simp
            exact hK2 _ _ (hK _ _ hS rfl (Below.refl _ _))
          · have e11 : y 11 = _ := hd 11 rfl
            obtain ⟨y, rfl⟩ := upd_at (y := y) (i := 11) e11
            dsimp [upd]
            refine wpOp_step rfl (fun K2 hK2 => ?_)
            go_simp
            exact hK2 _ _ (hK _ _ hS rfl (Below.refl _ _))
          · have e3 : y 3 = _ := hd 3 rfl
            have e4 : y 4 = _ := hd 4 rfl
            have e5 : y 5 = _ := hd 5 rfl
            have e6 : y 6 = _ := hd 6 rfl
            have e15 : y 15 = _ := hd 15 rfl
            obtain ⟨y, rfl⟩ := upd_at (y := y) (i := 3) e3
            obtain ⟨y, rfl⟩ := upd_at (y := y) (i := 4) e4
            obtain ⟨y, rfl⟩ := upd_at (y := y) (i := 5) e5
            obtain ⟨y, rfl⟩ := upd_at (y := y) (i := 6) e6
            obtain ⟨y, rfl⟩ := upd_at (y := y) (i := 15) e15
            dsimp [upd]
            refine wpOp_step rfl (fun K2 hK2 => ?_)
            go_simp
            exact hK2 _ _ (hK _ _ hS rfl (Below.refl _ _))
          · obtain ⟨⟨CA, ck⟩, e2, hqa⟩ := hd 2 rfl
            have e16 : y 16 = _ := hd 16 rfl
            obtain ⟨y, rfl⟩ := upd_at (y := y) (i := 2) e2
            obtain ⟨y, rfl⟩ := upd_at (y := y) (i := 16) e16
            dsimp [upd]
            refine wpOp_step rfl (fun K2 hK2 => ?_)
            go_simp
            refine (same_any (strOf (runT rs ps).p) CA CB (runT rs ps).c.length ck cl (runT rs ps).c _ _ _ _ _ w10 rfl hqa (own_seqT (own_keep HRM.out.own hS)).seq (by omega)).mono ?_
            rintro e' w' ⟨rfl, hb⟩
            exact hK2 _ _ (hK _ _ (below_next hS hb) rfl hb)
          · have e17 : y 17 = _ := hd 17 rfl
            obtain ⟨y, rfl⟩ := upd_at (y := y) (i := 17) e17
            dsimp [upd]
            refine wpOp_step rfl (fun K2 hK2 => ?_)
            go_simp
            exact hK2 _ _ (hK _ _ hS rfl (Below.refl _ _))
          · have e18 : y 18 = _ := hd 18 rfl
            obtain ⟨y, rfl⟩ := upd_at (y := y) (i := 18) e18
            dsimp [upd]
            refine wpOp_step rfl (fun K2 hK2 => ?_)
            go_simp
            exact hK2 _ _ (hK _ _ hS rfl (Below.refl _ _))
          · have e18 : y 18 = _ := hd 18 rfl
            have e19 : y 19 = _ := hd 19 rfl
            obtain ⟨y, rfl⟩ := upd_at (y := y) (i := 18) e18
            obtain ⟨y, rfl⟩ := upd_at (y := y) (i := 19) e19
            dsimp [upd]
            refine wpOp_step rfl (fun K2 hK2 => ?_)
            go_simp
            exact hK2 _ _ (hK _ _ hS rfl (Below.refl _ _))
        · intro y w10 f hS hd
          have e20 : y 20 = _ := hd 20 (by decide)
          clear hd
          have BF : Hid (Below w.heap.size w w10) := below_next BW.out hS
          obtain ⟨y, rfl⟩ := upd_at (y := y) (i := 20) e20
          dsimp [upd]
          refine wpAny_one (i := 21) (by kernel_rfl) ?_
          refine wpOp_step rfl (fun K2 hK2 => ?_)
          go_simp
          refine hK2 _ _ ?_
          clear hK2 K2 e20
          refine wpAny_done (by kernel_rfl) ?_ _
          clear t0 t1 t2 c3 c4 c5
          go_wp2_with fail
          go_ret
          first | exact ⟨rfl, BF.out⟩ | exact ⟨rfl, by rw [← hg]; exact BF.out⟩
end Go.Proofs.Ytkjlpmkhifjmdaa

/-! law03.AutomatonRuns: the row. -/
namespace Go.Proofs.Ytkjlpmkhifjmdaa
open Go.ChangeShapes Go.WideShapes Go.ChangeAt Go.WideMaps Go.WideElems Go.RowKit

theorem own : ownKnob Try.prog.godebug = none := by kernel_rfl
theorem laidOut : laidOutB Try.prog = true := by kernel_rfl
set_option maxRecDepth 100000 in
theorem lifted (os : Os) (started : os.Started) (H : Type) (enc : TypeId × Value → H) :
    ReturnsInHanded {} Try.checked os 4 .any (Rows.automatonRunsSpec.pre6 enc Try.prog Try.f4 Rows.automatonRunsRow.domain false) (Rows.automatonRunsSpec.post enc Try.prog Try.f4 false true false false) := by
  refine returnsInHanded_of_change (C := Try.checked) own started (by kernel_rfl) Try.func4
    (ChangeSpec.witness6 (enc := enc) (C := Try.checked) false ⟨#[], #[.agg #[.int .u8 0, .int .u8 0, .slice none 0 0], .slice none 0 0, .int .u8 0], []⟩ 8 (by kernel_rfl) (by kernel_rfl) (by kernel_rfl) (by kernel_rfl)) ?_
  intro W base args ds gs before hval0 hW hcnd _
  have hval : ∀ (j : Nat) t v, Try.f4.params[j]? = some t → args[j]? = some v → Value.okWide Try.prog W .any base t v := hval0
  have hW' := hW
  obtain ⟨p, q, hA0, hV, rfl, hfz, hnd⟩ := hW
  have hA : DataW.TrodAll enc Try.prog W 0 (fun _ => true) true Try.f4.params.toList args.toList ds p := hA0
  rw [Try.params4] at hA hval
  obtain ⟨v0, vs0, d0, ds0, p0, q0, hargs, rfl, rfl, h0, r0⟩ := trodAll_cons hA
  obtain ⟨v1, vs1, d1, ds1, p1, q1, rfl, rfl, rfl, h1, r1⟩ := trodAll_cons r0
  obtain ⟨v2, vs2, d2, ds2, p2, q2, rfl, rfl, rfl, h2, r2⟩ := trodAll_cons r1
  obtain ⟨rfl, rfl, rfl⟩ := trodAll_nil r2
  obtain rfl : args = #[v0, v1, v2] := by cases args; simp_all
  obtain ⟨rfl, rfl⟩ := trodVars_none hV
  have k0 := h0
  have lt0 : ∀ x ∈ p0, x.block < W.heap.size := by obtain ⟨m, hm⟩ := k0; exact DataW.trod_lt m _ _ _ hm
  have k1 := h1
  have lt1 : ∀ x ∈ p1, x.block < W.heap.size := by obtain ⟨m, hm⟩ := k1; exact DataW.trod_lt m _ _ _ hm
  have k2 := h2
  have lt2 : ∀ x ∈ p2, x.block < W.heap.size := by obtain ⟨m, hm⟩ := k2; exact DataW.trod_lt m _ _ _ hm
  obtain ⟨bs, dr, A, n, k, rfl, hr0, hbs, hdr⟩ := open_raw (hval 0 24 v0 rfl rfl) h0
  obtain ⟨XA1, xk1, xs1, rfl, hx1, hz1⟩ := open_bytesL (hval 1 50 v1 rfl rfl) h1
  obtain ⟨a2, rfl, _, _, w2⟩ := open_int Try.underlying5 (hval 2 5 v2 rfl rfl) h2
  clear hA0 hval0
  refine (walk_runs bs dr A n k XA1 xk1 xs1 a2 W hr0 hbs hdr hx1 hz1 ⟨(bounds_u8 w2).1, by have := (bounds_u8 w2).2; omega⟩).mono fun e W' ⟨he, bel⟩ => ?_
  subst he
  exact ⟨_, rfl, _, _, _, [], _, [], hW', trodAll_mk1 (shut_bool Try.underlying4 _), (trodAll_cons_mk (Below.trod laidOut (by kernel_rfl) (of_decide_eq_true (by kernel_rfl)) k0 bel lt0) (trodAll_cons_mk (Below.trod laidOut (by kernel_rfl) (of_decide_eq_true (by kernel_rfl)) k1 bel lt1) (trodAll_cons_mk (Below.trod laidOut (by kernel_rfl) (of_decide_eq_true (by kernel_rfl)) k2 bel lt2) trodAll_mk0))), rfl, bel.frame _, fun h => by cases h⟩

theorem over : Rows.automatonRunsRow.holds Try.pinned (OpenSpec.ofChange Rows.automatonRunsSpec) :=
  OpenClaim.holds_of_wide 4 Try.f4 rfl rfl rfl rfl rfl rfl rfl ⟨rfl, rfl, rfl, rfl, rfl⟩ rfl rfl rfl rfl rfl (by kernel_rfl) Try.func4 (by kernel_rfl)
    (of_decide_eq_true (by kernel_rfl)) (by unfold Func.isWrapper; first | (rw [if_pos (by decide +kernel)]; kernel_rfl) | (rw [if_neg (by decide +kernel)]; exact ⟨rfl, rfl⟩))
    (fun os started H enc _ => lifted os started H enc)

theorem proved : Rows.AutomatonRunsSaid := over
end Go.Proofs.Ytkjlpmkhifjmdaa
