/- Merged by program: S3a S3b -/
import Derived.Test.YtkjlpmkhifjmdaaQ19

/-! law03's sanity: the table and what it gives. -/
namespace Go.Proofs.Ytkjlpmkhifjmdaa
open Go.RowKit Go.Maps
def san3 : List Rule := [⟨⟨#[97]⟩, [1], 63, 63, 0, 0⟩, ⟨⟨#[]⟩, [60], 63, 8, 0, 1⟩, ⟨⟨#[49]⟩, [1], 63, 63, 1, 1⟩, ⟨⟨#[32]⟩, [0], 63, 63, 1, 0⟩]
def want3 : List St := [⟨0, 0, 63⟩, ⟨0, 1, 63⟩, ⟨1, 0, 8⟩, ⟨1, 1, 8⟩, ⟨1, 3, 63⟩, ⟨0, 4, 63⟩, ⟨1, 4, 8⟩]
theorem s3_states : (theG san3).1 = want3 := by decide +kernel
theorem s3_alive : aliveL 3 (theG san3) = [true, true, true, true, true, true, true] := by decide +kernel
theorem s3_run1 : (runT san3 [1, 2, 3, 0]).p = [49, 32, 97] ∧ (runT san3 [1, 2, 3, 0]).c = [60, 1, 0, 1] ∧ (runT san3 [1, 2, 3, 0]).n = 4 ∧ runOk 3 san3 [1, 2, 3, 0] = true := by decide +kernel
theorem s3_run2 : (runT san3 [1, 0]).n = 1 ∧ runOk 3 san3 [1, 0] = false := by decide +kernel
theorem s3_run3 : (runT san3 [1]).n = 1 ∧ runOk 3 san3 [1] = false := by decide +kernel
theorem s3_step1 : stepS san3 St.start 1 = (⟨1, 0, 8⟩, true) := by decide +kernel
theorem s3_step2 : stepS san3 ⟨1, 0, 8⟩ 0 = (St.zero, false) := by decide +kernel
theorem s3_step3 : stepS san3 ⟨1, 0, 8⟩ 4 = (St.zero, false) := by decide +kernel
theorem s3_acc : accB 3 ⟨0, 1, 63⟩ = true ∧ accB 3 ⟨1, 0, 8⟩ = false ∧ accB 3 ⟨2, 0, 63⟩ = false := by decide +kernel
theorem s3_good : GoodL 2 3 san3 := by
  refine ⟨by decide +kernel, ?_, by decide +kernel⟩
  intro i j h1 h2 hij
  have : ∀ i < 4, ∀ j < 4, i < j → san3[i]? ≠ san3[j]? := by decide +kernel
  intro e
  exact this i h1 j h2 hij (by rw [List.getElem?_eq_getElem h1, List.getElem?_eq_getElem h2, e])
theorem s3_fits : ∀ x ∈ san3, x.fits := by
  intro x hx
  simp only [san3, List.mem_cons, List.not_mem_nil, or_false] at hx
  rcases hx with rfl | rfl | rfl | rfl <;> exact ⟨by decide, by decide, by decide, by decide, by decide, by decide, by decide⟩
end Go.Proofs.Ytkjlpmkhifjmdaa

/-! law03's sanity: the walk up to the lists. -/
namespace Go.Proofs.Ytkjlpmkhifjmdaa
open Go.RowKit Go.Maps
def RuleSEnd (s : ByteArray) (c r f t : Int) (w : World) (e : Ending) (w' : World) : Prop :=
  ∃ A k, e = .returned (.agg #[.string s, .slice A 1 k, .int .u8 63, .int .u8 r, .int .i64 f, .int .i64 t]) ∧ SeqC w' w.heap.size A [c] k ∧ Below w.heap.size w w'
theorem Made.rs3 {w : World} {lo n k : Nat} {A : Option Addr} {rs : List Rule} (h : Made w lo (.slice A n k) rs) : Rules w w.heap.size A rs := by
  obtain ⟨A', k', vals, e, ho, hr⟩ := h
  injection e with e1 e2 e3
  subst e1 e2 e3
  exact (hr.rules ho).1
set_option maxRecDepth 10000 in
set_option maxHeartbeats 400000 in
theorem ruleS_any (s : ByteArray) (c r f t : Int) (hr : 0 ≤ r ∧ r < 256) (w : World) :
    Calls Try.prog 34 #[.string s, .int .u8 c, .agg #[.int .i64 r, .int .i64 f, .int .i64 t]] w (RuleSEnd s c r f t w) := by
  have c1 : IntKind.u8.wrap r = r := IntWalk.u8_in r (by omega)
  go_enter Try.func34, Try.ntmps34
  go_wp2
  refine bodyPost_ret (v := .agg #[.string s, .slice (some ⟨w.heap.size + 1 + 1, 0, none⟩) 1 1, .int .u8 63, .int .u8 r, .int .i64 f, .int .i64 t]) (by simp [results, Try.results34, go_sem]) rfl ⟨_, _, rfl, ?_, ?_⟩
  · obtain ⟨A', k', e, hs⟩ := IsCells.new ((w.alloc (.cells #[.int .i64 r, .int .i64 f, .int .i64 t] 74)).alloc (.cells #[.string s, .slice (some ⟨w.heap.size + 1 + 1, 0, none⟩) 1 1, .int .u8 63, .int .u8 r, .int .i64 f, .int .i64 t] 55)) c
    simp only [World.size_alloc] at e hs
    injection e with e1 e2 e3
    subst e1 e3
    exact hs.less (by omega)
  · exact (((Below.refl _ _).alloc (Nat.le_refl _) _).alloc (by simp) _).alloc (by simp; omega) _
/-- The table lies where it lay. -/
structure S3 (w0 : World) (q : Nat) (A : Option Addr) (k : Nat) (w : World) : Prop where
  ht : Blk w q 31 #[.int .i64 2, .int .u8 3, .slice A 4 k]
  hr : Rules w w.heap.size A san3
  hb : Below w0.heap.size w0 w
  hq : w0.heap.size ≤ q
theorem S3.next {w0 w w' : World} {q : Nat} {A : Option Addr} {k : Nat} (h : S3 w0 q A k w) (hb : Below w.heap.size w w') : S3 w0 q A k w' :=
  ⟨h.ht.keep hb h.ht.lt, h.hr.up hb, h.hb.trans (hb.mono h.hb.size), h.hq⟩
theorem S3.box {w0 w : World} {q : Nat} {A : Option Addr} {k : Nat} (h : S3 w0 q A k w) (vs : Array Value) (e : TypeId) : S3 w0 q A k (w.alloc (.cells vs e)) := h.next (below_box _ _ _)
def phi3 (V : World) (A : Option Addr) (k i : Nat) (v : Value) (w : World) : Prop := match i with
  | 0 => v = .agg #[.int .i64 2, .int .u8 3, .slice A 4 k]
  | 1 => v = .agg #[.int .i64 0, .int .i64 0, .int .u8 63]
  | 2 => v = .tuple #[.agg #[.int .i64 1, .int .i64 0, .int .u8 8], .bool true]
  | 3 => v = .tuple #[.agg #[.int .i64 1, .int .i64 0, .int .u8 8], .bool true]
  | 4 => v = .agg #[.int .i64 1, .int .i64 0, .int .u8 8]
  | 5 => v = .bool true
  | 6 => ∃ g, v = .pointer (some ⟨g, 0, none⟩) ∧ V.heap.size ≤ g ∧ ∃ a b c, Blk w g 26 #[a, b, c]
  | _ => True
theorem phi3_keep {V w w' : World} {A : Option Addr} {k : Nat} (hw : ∀ g a b c, V.heap.size ≤ g → Blk w g 26 #[a, b, c] → ∃ a b c, Blk w' g 26 #[a, b, c]) : ∀ {i : Nat} {v : Value}, phi3 V A k i v w → phi3 V A k i v w'
  | 0, _, h => h
  | 1, _, h => h
  | 2, _, h => h
  | 3, _, h => h
  | 4, _, h => h
  | 5, _, h => h
  | 6, _, ⟨g, e, hg, a, b, c, h⟩ => ⟨g, e, hg, hw g a b c hg h⟩
  | _ + 7, _, _ => trivial
theorem phi3_below {V w w' : World} {A : Option Addr} {k i : Nat} {v : Value} (hb : Below w.heap.size w w') (h : phi3 V A k i v w) : phi3 V A k i v w' :=
  phi3_keep (fun _ a b c _ h => ⟨a, b, c, h.keep hb h.lt⟩) h
def st3 (V : World) (b : Nat → Bool) (y : Nat → Value) (w : World) : Prop :=
  Below V.heap.size V w ∧ (b 6 = false → y 6 = undef) ∧ (b 7 = true → b 6 = true ∧ ∃ g, y 6 = .pointer (some ⟨g, 0, none⟩) ∧ V.heap.size ≤ g ∧ Blk w g 26 #[.int .i64 1, .int .i64 0, .int .u8 8])
theorem st3_same {V w w' : World} {b : Nat → Bool} {y : Nat → Value} {i : Nat} {v : Value} (h : st3 V b y w) (hi : i ≠ 6 ∧ i ≠ 7) (hb : Below w.heap.size w w') : st3 V (fun j => if j = i then true else b j) (upd y i v) w' := by
  refine ⟨h.1.trans (hb.mono h.1.size), fun h6 => ?_, fun h7 => ?_⟩
  · have h6' : b 6 = false := by simpa [Ne.symm hi.1] using h6
    unfold upd; rw [if_neg (Ne.symm hi.1)]; exact h.2.1 h6'
  have h7' : b 7 = true := by simpa [Ne.symm hi.2] using h7
  obtain ⟨h6, g, e, hg, hB⟩ := h.2.2 h7'
  refine ⟨by simp [h6], g, ?_, hg, hB.keep hb hB.lt⟩
  unfold upd; rw [if_neg (Ne.symm hi.1)]; exact e
theorem SeqN.lit (w : World) (ks : List Int) (t : TypeId) : SeqN (w.alloc (.cells (ks.map (Value.int .i64)).toArray t)) (w.alloc (.cells (ks.map (Value.int .i64)).toArray t)).heap.size (some ⟨w.heap.size, 0, none⟩) ks := fun _ => by
  refine ⟨w.heap.size, 0, rfl, by simp, fun j hj => ?_⟩
  have h := (Blk.new w (ks.map (Value.int .i64)).toArray t).cell (0 + j)
  rw [h]
  simp [hj]
/-- The table and the first state behind it. -/
def S4 (w0 : World) (q : Nat) (A : Option Addr) (g : Nat) (w : World) : Prop := S3 w0 q A 4 w ∧ Blk w g 26 #[.int .i64 1, .int .i64 0, .int .u8 8]
theorem S4.next {w0 w w' : World} {q g : Nat} {A : Option Addr} (h : S4 w0 q A g w) (hb : Below w.heap.size w w') : S4 w0 q A g w' := ⟨h.1.next hb, h.2.keep hb h.2.lt⟩
theorem S4.box {w0 w : World} {q g : Nat} {A : Option Addr} (h : S4 w0 q A g w) (vs : Array Value) (e : TypeId) : S4 w0 q A g (w.alloc (.cells vs e)) := h.next (below_box _ _ _)
theorem run3 {w0 w : World} {q : Nat} {A : Option Addr} (h : S3 w0 q A 4 w) (PA : Option Addr) (pn pk : Nat) (ks : List Int) (hks : ks.length = pn) (hP : SeqN w w.heap.size PA ks) (hpm : pn ≤ 1000000) :
    Calls Try.prog 17 #[.agg #[.int .i64 2, .int .u8 3, .slice A 4 4], .slice PA pn pk] w (RunEnd 3 san3 ks w) :=
  run_any 2 3 A 4 4 san3 PA pn pk ks w rfl h.hr s3_good (by decide) (by decide) (by decide) hks hP hpm
theorem str_1a : strOf [49, 32, 97] = ⟨#[49, 32, 97]⟩ := by decide +kernel
def S5 (w0 : World) (q : Nat) (A : Option Addr) (g g8 : Nat) (CA : Option Addr) (ck : Nat) (ta tb tc : Int) (w : World) : Prop := S4 w0 q A g w ∧ Blk w g8 41 #[.string ⟨#[49, 32, 97]⟩, .slice CA 4 ck, .int .i64 4, .int .i64 ta, .int .i64 tb, .int .u8 tc, .bool true] ∧ Seq w w.heap.size CA [60, 1, 0, 1]
theorem S5.next {w0 w w' : World} {q g g8 ck : Nat} {A CA : Option Addr} {ta tb tc : Int} (h : S5 w0 q A g g8 CA ck ta tb tc w) (hb : Below w.heap.size w w') : S5 w0 q A g g8 CA ck ta tb tc w' := ⟨h.1.next hb, h.2.1.keep hb h.2.1.lt, (h.2.2.keep hb).more hb.size⟩
theorem S5.box {w0 w : World} {q g g8 ck : Nat} {A CA : Option Addr} {ta tb tc : Int} (h : S5 w0 q A g g8 CA ck ta tb tc w) (vs : Array Value) (e : TypeId) : S5 w0 q A g g8 CA ck ta tb tc (w.alloc (.cells vs e)) := h.next (below_box _ _ _)
/-- A trace that stops after one rule. -/
def T9 (g9 : Nat) (w : World) : Prop := ∃ a b c d e, Blk w g9 41 #[a, b, .int .i64 1, c, d, e, .bool false]
theorem T9.next {w w' : World} {g9 : Nat} (h : T9 g9 w) (hb : Below w.heap.size w w') : T9 g9 w' := by
  obtain ⟨a, b, c, d, e, h⟩ := h
  exact ⟨a, b, c, d, e, h.keep hb h.lt⟩
/-- The three lists. -/
structure S6 (b1 b2 b3 : Nat) (w : World) : Prop where
  h1 : ∀ j (h : j < want3.length), w.cell? ⟨b1, j * 3, none⟩ = some (.int .i64 want3[j].mode) ∧ w.cell? ⟨b1, j * 3 + 1, none⟩ = some (.int .i64 want3[j].last) ∧ w.cell? ⟨b1, j * 3 + 2, none⟩ = some (.int .u8 want3[j].need)
  h2 : ∀ j (h : j < want3.length), w.cell? ⟨b2, j * 3, none⟩ = some (.int .i64 want3[j].mode) ∧ w.cell? ⟨b2, j * 3 + 1, none⟩ = some (.int .i64 want3[j].last) ∧ w.cell? ⟨b2, j * 3 + 2, none⟩ = some (.int .u8 want3[j].need)
  h3 : ∀ j, j < 7 → w.cell? ⟨b3, j, none⟩ = some (.bool true)
  l1 : b1 < w.heap.size
  l2 : b2 < w.heap.size
  l3 : b3 < w.heap.size
theorem S6.next {w w' : World} {b1 b2 b3 : Nat} (h : S6 b1 b2 b3 w) (hb : Below w.heap.size w w') : S6 b1 b2 b3 w' := by
  have key : ∀ b i, b < w.heap.size → w'.cell? ⟨b, i, none⟩ = w.cell? ⟨b, i, none⟩ := fun b i hB => hb.cell (p := ⟨b, i, none⟩) hB
  have hs := hb.size
  exact ⟨fun j hj => ⟨(key _ _ h.l1).trans (h.h1 j hj).1, (key _ _ h.l1).trans (h.h1 j hj).2.1, (key _ _ h.l1).trans (h.h1 j hj).2.2⟩, fun j hj => ⟨(key _ _ h.l2).trans (h.h2 j hj).1, (key _ _ h.l2).trans (h.h2 j hj).2.1, (key _ _ h.l2).trans (h.h2 j hj).2.2⟩, fun j hj => (key _ _ h.l3).trans (h.h3 j hj), Nat.lt_of_lt_of_le h.l1 hs, Nat.lt_of_lt_of_le h.l2 hs, Nat.lt_of_lt_of_le h.l3 hs⟩
def wantVals : Array Value := #[.int .i64 0, .int .i64 0, .int .u8 63, .int .i64 0, .int .i64 1, .int .u8 63, .int .i64 1, .int .i64 0, .int .u8 8, .int .i64 1, .int .i64 1, .int .u8 8, .int .i64 1, .int .i64 3, .int .u8 63, .int .i64 0, .int .i64 4, .int .u8 63, .int .i64 1, .int .i64 4, .int .u8 8]
theorem want_cells {w : World} {b : Nat} (h : Blk w b 26 wantVals) : ∀ j (h : j < want3.length), w.cell? ⟨b, j * 3, none⟩ = some (.int .i64 want3[j].mode) ∧ w.cell? ⟨b, j * 3 + 1, none⟩ = some (.int .i64 want3[j].last) ∧ w.cell? ⟨b, j * 3 + 2, none⟩ = some (.int .u8 want3[j].need) := by
  intro j hj
  rw [h.cell (j * 3), h.cell (j * 3 + 1), h.cell (j * 3 + 2)]
  have hj' : j < 7 := hj
  rcases j with _ | _ | _ | _ | _ | _ | _ | j <;> first | exact ⟨rfl, rfl, rfl⟩ | omega
theorem acc_lit (A : Option Addr) (mo la ne : Int) (v : Bool) (hs : (-9223372036854775808 ≤ mo ∧ mo ≤ 9223372036854775807) ∧ (-9223372036854775808 ≤ la ∧ la ≤ 9223372036854775807) ∧ (0 ≤ ne ∧ ne < 256)) (hv : accB 3 ⟨mo, la, ne⟩ = v) (w : World) :
    Calls Try.prog 14 #[.agg #[.int .i64 2, .int .u8 3, .slice A 4 4], .agg #[.int .i64 mo, .int .i64 la, .int .u8 ne]] w fun e w' => e = .returned (.bool v) ∧ Below w.heap.size w w' := by
  subst hv; exact accepts_any 2 3 A 4 4 ⟨mo, la, ne⟩ (by decide) hs w
def SA9 (V : World) (A : Option Addr) (q g b : Nat) (w' : World) : Prop := Below V.heap.size V w' ∧ w'.cell? ⟨q, 0, none⟩ = some (.int .i64 2) ∧ w'.cell? ⟨q, 1, none⟩ = some (.int .u8 3) ∧ w'.cell? ⟨q, 2, none⟩ = some (.slice A 4 4) ∧ w'.cell? ⟨g, 0, none⟩ = some (.int .i64 1) ∧ w'.cell? ⟨g, 1, none⟩ = some (.int .i64 0) ∧ w'.cell? ⟨g, 2, none⟩ = some (.int .u8 8) ∧ w'.cell? ⟨b, 3, none⟩ = some (.int .i64 0) ∧ w'.cell? ⟨b, 4, none⟩ = some (.int .i64 1) ∧ w'.cell? ⟨b, 5, none⟩ = some (.int .u8 63)
theorem SA9.keep {V w' w'' : World} {A : Option Addr} {q g b : Nat} (hb : Below w'.heap.size w' w'') (H : SA9 V A q g b w') : SA9 V A q g b w'' := by
  obtain ⟨h0, a0, a1, a2, b0, b1, b2, c0, c1, c2⟩ := H
  have key : ∀ b i v, w'.cell? ⟨b, i, none⟩ = some v → w''.cell? ⟨b, i, none⟩ = some v := fun b i v h => (hb.cell (p := ⟨b, i, none⟩) (World.block_lt_of_cell? w' ⟨b, i, none⟩ h)).trans h
  exact ⟨h0.trans (hb.mono h0.size), key _ _ _ a0, key _ _ _ a1, key _ _ _ a2, key _ _ _ b0, key _ _ _ b1, key _ _ _ b2, key _ _ _ c0, key _ _ _ c1, key _ _ _ c2⟩
set_option maxRecDepth 10000 in
set_option maxHeartbeats 4000000 in
theorem sanity3_any (w : World) :
    Calls Try.prog 10 #[] w fun e w' => e = .returned (.bool true) ∧ Below w.heap.size w w' := by
  go_enter Try.func10, Try.ntmps10
  go_wp2_with fail
  refine (ruleS_any ⟨#[97]⟩ 1 63 0 0 (by decide) _).mono ?_
  rintro e w1 ⟨A1, k1, rfl, h1, hb1⟩
  go_wp2_with fail
  refine (ruleS_any ⟨#[]⟩ 60 8 0 1 (by decide) _).mono ?_
  rintro e w2 ⟨A2, k2, rfl, h2, hb2⟩
  go_wp2_with fail
  refine (ruleS_any ⟨#[49]⟩ 1 63 1 1 (by decide) _).mono ?_
  rintro e w3 ⟨A3, k3, rfl, h3, hb3⟩
  go_wp2_with fail
  refine (ruleS_any ⟨#[32]⟩ 0 63 1 0 (by decide) _).mono ?_
  rintro e w4 ⟨A4, k4, rfl, h4, hb4⟩
  have g1 := (((h1.below hb2).below hb3).below hb4)
  have g2 := (((h2.less hb1.size).below hb3).below hb4)
  have g3 := ((h3.less (Nat.le_trans hb1.size hb2.size)).below hb4)
  have g4 := h4.less (Nat.le_trans (Nat.le_trans hb1.size hb2.size) hb3.size)
  have gb := below_next (below_next (below_next hb1 hb2) hb3) hb4
  have HM := Lib.hid (Made.lit (rs := san3) ((((RulesW.nil.snoc (k := k1) g1 (s3_fits _ (by decide))).snoc (k := k2) g2 (s3_fits _ (by decide))).snoc (k := k3) g3 (s3_fits _ (by decide))).snoc (k := k4) g4 (s3_fits _ (by decide))) gb.size (by decide))
  have GB := Lib.hid gb
  clear g1 g2 g3 g4 gb h1 h2 h3 h4 hb1 hb2 hb3 hb4
  go_upto_region 2 with fail
  have HS : Hid (S3 w (w4.heap.size + 1) (some ⟨w4.heap.size, 0, none⟩) 4 ((w4.alloc (.cells #[.string ⟨#[97]⟩, .slice A1 1 k1, .int .u8 63, .int .u8 63, .int .i64 0, .int .i64 0, .string ⟨#[]⟩, .slice A2 1 k2, .int .u8 63, .int .u8 8, .int .i64 0, .int .i64 1, .string ⟨#[49]⟩, .slice A3 1 k3, .int .u8 63, .int .u8 63, .int .i64 1, .int .i64 1, .string ⟨#[32]⟩, .slice A4 1 k4, .int .u8 63, .int .u8 63, .int .i64 1, .int .i64 0] 55)).alloc (.cells #[.int .i64 2, .int .u8 3, .slice (some ⟨w4.heap.size, 0, none⟩) 4 4] 31))) := by
    have hs := GB.out.size
    have hm : Made (w4.alloc (.cells #[.string ⟨#[97]⟩, .slice A1 1 k1, .int .u8 63, .int .u8 63, .int .i64 0, .int .i64 0, .string ⟨#[]⟩, .slice A2 1 k2, .int .u8 63, .int .u8 8, .int .i64 0, .int .i64 1, .string ⟨#[49]⟩, .slice A3 1 k3, .int .u8 63, .int .u8 63, .int .i64 1, .int .i64 1, .string ⟨#[32]⟩, .slice A4 1 k4, .int .u8 63, .int .u8 63, .int .i64 1, .int .i64 0] 55)) w.heap.size (.slice (some ⟨w4.heap.size, 0, none⟩) 4 4) san3 := HM.out
    refine ⟨?_, hm.rs3.up (below_box _ _ _), (GB.out.alloc hs _).alloc (by simp; omega) _, by omega⟩
    have := Blk.new (w4.alloc (.cells #[.string ⟨#[97]⟩, .slice A1 1 k1, .int .u8 63, .int .u8 63, .int .i64 0, .int .i64 0, .string ⟨#[]⟩, .slice A2 1 k2, .int .u8 63, .int .u8 8, .int .i64 0, .int .i64 1, .string ⟨#[49]⟩, .slice A3 1 k3, .int .u8 63, .int .u8 63, .int .i64 1, .int .i64 1, .string ⟨#[32]⟩, .slice A4 1 k4, .int .u8 63, .int .u8 63, .int .i64 1, .int .i64 0] 55)) #[.int .i64 2, .int .u8 3, .slice (some ⟨w4.heap.size, 0, none⟩) 4 4] 31
    simpa only [World.size_alloc] using this
  clear HM GB
  generalize (w4.alloc (.cells #[.string ⟨#[97]⟩, .slice A1 1 k1, .int .u8 63, .int .u8 63, .int .i64 0, .int .i64 0, .string ⟨#[]⟩, .slice A2 1 k2, .int .u8 63, .int .u8 8, .int .i64 0, .int .i64 1, .string ⟨#[49]⟩, .slice A3 1 k3, .int .u8 63, .int .u8 63, .int .i64 1, .int .i64 1, .string ⟨#[32]⟩, .slice A4 1 k4, .int .u8 63, .int .u8 63, .int .i64 1, .int .i64 0] 55)).alloc (.cells #[.int .i64 2, .int .u8 3, .slice (some ⟨w4.heap.size, 0, none⟩) 4 4] 31) = V at *
  generalize w4.heap.size + 1 = q at *
  generalize (some (⟨w4.heap.size, 0, none⟩ : Addr)) = A at *
  obtain ⟨k, hk⟩ : ∃ k, 4 = k := ⟨_, rfl⟩
  generalize (Value.agg #[.string ⟨#[97]⟩, .slice A1 1 k1, .int .u8 63, .int .u8 63, .int .i64 0, .int .i64 0]) = v18 at *
  generalize (Value.agg #[.string ⟨#[]⟩, .slice A2 1 k2, .int .u8 63, .int .u8 8, .int .i64 0, .int .i64 1]) = v20 at *
  generalize (Value.agg #[.string ⟨#[49]⟩, .slice A3 1 k3, .int .u8 63, .int .u8 63, .int .i64 1, .int .i64 1]) = v22 at *
  generalize (Value.agg #[.string ⟨#[32]⟩, .slice A4 1 k4, .int .u8 63, .int .u8 63, .int .i64 1, .int .i64 0]) = v24 at *
  clear hk k A1 A2 A3 A4 k1 k2 k3 k4 w1 w2 w3 w4
  refine wp_region_mid 8 0 (by kernel_rfl) (fun y => Value.bool false :: Value.pointer (some ⟨q, 0, none⟩) :: y 6 :: undef :: undef :: undef :: undef :: undef :: undef :: undef :: undef :: undef :: undef :: undef :: undef :: undef :: undef :: Value.agg #[Value.int IntKind.i64 63, Value.int IntKind.i64 0, Value.int IntKind.i64 0] :: v18 :: Value.agg #[Value.int IntKind.i64 8, Value.int IntKind.i64 0, Value.int IntKind.i64 1] :: v20 :: Value.agg #[Value.int IntKind.i64 63, Value.int IntKind.i64 1, Value.int IntKind.i64 1] :: v22 :: Value.agg #[Value.int IntKind.i64 63, Value.int IntKind.i64 1, Value.int IntKind.i64 0] :: v24 :: Value.slice A 4 4 :: Value.agg #[Value.int IntKind.i64 2, Value.int IntKind.u8 3, Value.slice A 4 4] :: y 3 :: y 0 :: y 1 :: y 2 :: y 4 :: y 5 :: undef :: undef :: undef :: undef :: undef :: undef :: undef :: undef :: undef :: undef :: undef :: undef :: undef :: undef :: undef :: undef :: undef :: undef :: undef :: undef :: undef :: undef :: undef :: undef :: undef :: undef :: undef :: undef :: undef :: undef :: undef :: undef :: undef :: undef :: undef :: undef :: undef :: undef :: undef :: undef :: undef :: undef :: undef :: undef :: undef :: undef :: undef :: undef :: undef :: undef :: undef :: undef :: undef :: undef :: undef :: undef :: undef :: undef :: undef :: undef :: undef :: undef :: undef :: undef :: undef :: undef :: undef :: undef :: undef :: undef :: undef :: undef :: undef :: undef :: undef :: undef :: undef :: undef :: undef :: undef :: undef :: undef :: undef :: undef :: undef :: undef :: undef :: undef :: undef :: undef :: undef :: undef :: undef :: undef :: undef :: undef :: undef :: undef :: undef :: undef :: undef :: undef :: undef :: undef :: undef :: undef :: undef :: undef :: undef :: undef :: undef :: undef :: undef :: undef :: undef :: undef :: undef :: undef :: undef :: undef :: undef :: undef :: undef :: undef :: undef :: undef :: undef :: undef :: undef :: undef :: undef :: undef :: undef :: undef :: undef :: undef :: undef :: undef :: undef :: undef :: undef :: undef :: undef :: undef :: undef :: undef :: undef :: []) (st3 V) (phi3 V A 4) (fun i => undef)
    (by kernel_rfl) (by kernel_rfl) (by kernel_rfl) (by kernel_rfl) ?_ [0, 1, 2, 3, 4, 5, 6, 7] (by kernel_rfl) ?_ ?_
  · exact ⟨(Below.refl _ _).drew, fun _ => rfl, fun h => by cases h⟩
  · refine allCons ?_ (allCons ?_ (allCons ?_ (allCons ?_ (allCons ?_ (allCons ?_ (allCons ?_ (allCons ?_ allNil)))))))
    all_goals intro bl y w10 K3 hbi hS hd hK3
    · have hS3 := HS.out.next hS.1
      have c0 := hS3.ht.cell 0
      have c1 := hS3.ht.cell 1
      have c2 := hS3.ht.cell 2
      simp only [List.getElem?_toArray, List.getElem?_cons_zero, List.getElem?_cons_succ] at c0 c1 c2
      refine wpOp_step rfl (fun K2 hK2 => ?_)
      go_simp
      exact hK2 _ _ (hK3 _ _ (st3_same hS (by decide) (Below.refl _ _)) rfl (fun _ _ h => h))
    · refine wpOp_step rfl (fun K2 hK2 => ?_)
      go_simp
      refine (start_any _).mono ?_
      rintro e' w2 ⟨rfl, hb⟩
      exact hK2 _ _ (hK3 _ _ (st3_same hS (by decide) hb) rfl (fun _ _ h => phi3_below hb h))
    · have e0 : y 0 = _ := hd 0 rfl
      have e1 : y 1 = _ := hd 1 rfl
      obtain ⟨y, rfl⟩ := upd_at (y := y) (i := 0) e0
      obtain ⟨y, rfl⟩ := upd_at (y := y) (i := 1) e1
      dsimp [upd]
      have hS3 := HS.out.next hS.1
      refine wpOp_step rfl (fun K2 hK2 => ?_)
      go_simp
      refine (step_any 2 3 A 4 4 san3 St.start 1 rfl ⟨by decide, by decide, by decide⟩ (by decide) w10 hS3.hr).mono ?_
      rw [s3_step1]
      rintro e' w2 ⟨rfl, hb⟩
      exact hK2 _ _ (hK3 _ _ (st3_same hS (by decide) hb) rfl (fun _ _ h => phi3_below hb h))
    · have e2 : y 2 = _ := hd 2 rfl
      obtain ⟨y, rfl⟩ := upd_at (y := y) (i := 2) e2
      dsimp [upd]
      refine wpOp_step rfl (fun K2 hK2 => ?_)
      go_simp
      exact hK2 _ _ (hK3 _ _ (st3_same hS (by decide) (Below.refl _ _)) rfl (fun _ _ h => h))
    · have e3 : y 3 = _ := hd 3 rfl
      obtain ⟨y, rfl⟩ := upd_at (y := y) (i := 3) e3
      dsimp [upd]
      refine wpOp_step rfl (fun K2 hK2 => ?_)
      go_simp
      exact hK2 _ _ (hK3 _ _ (st3_same hS (by decide) (Below.refl _ _)) rfl (fun _ _ h => h))
    · have e3 : y 3 = _ := hd 3 rfl
      obtain ⟨y, rfl⟩ := upd_at (y := y) (i := 3) e3
      dsimp [upd]
      refine wpOp_step rfl (fun K2 hK2 => ?_)
      go_simp
      exact hK2 _ _ (hK3 _ _ (st3_same hS (by decide) (Below.refl _ _)) rfl (fun _ _ h => h))
    · refine wpOp_step rfl (fun K2 hK2 => ?_)
      go_simp
      refine hK2 _ _ (hK3 _ _ ⟨hS.1.alloc hS.1.size _, fun h6 => by simp at h6, fun h7 => ?_⟩ ⟨_, rfl, hS.1.size, _, _, _, Blk.new _ _ _⟩ (fun _ _ h => phi3_below (below_box _ _ _) h))
      have h7' : bl 7 = true := by simpa using h7
      have := (hS.2.2 h7').1
      rw [hbi] at this; cases this
    · have e4 : y 4 = _ := hd 4 rfl
      obtain ⟨g, e6, hg, za, zb, zc, hB⟩ := hd 6 rfl
      have hb6 : bl 6 = true := by
        cases hb6 : bl 6 with
        | true => rfl
        | false => have := hS.2.1 hb6; rw [e6] at this; cases this
      obtain ⟨y, rfl⟩ := upd_at (y := y) (i := 4) e4
      obtain ⟨y, rfl⟩ := upd_at (y := y) (i := 6) e6
      dsimp [upd]
      have c0 := hB.cell 0
      have c1 := hB.cell 1
      have c2 := hB.cell 2
      have f0 := hB.free 0
      have f1 := hB.free 1
      have f2 := hB.free 2
      simp only [List.getElem?_toArray, List.getElem?_cons_zero, List.getElem?_cons_succ] at c0 c1 c2
      refine wpOp_step rfl (fun K2 hK2 => ?_)
      go_simp
      refine hK2 _ _ (hK3 undef _ ⟨((hS.1.setCell hg _).setCell hg _).setCell hg _, fun h => by simp [hb6] at h, fun _ => ⟨by simp [hb6], g, ?_, hg, ((hB.set 0 (.int .i64 1)).set 1 (.int .i64 0)).set 2 (.int .u8 8)⟩⟩ trivial (fun _ _ hφ => phi3_keep (fun g' a b c _ hc => ?_) hφ))
      · simp [upd]
      · by_cases hgg : g' = g
        · subst hgg
          exact ⟨_, _, _, ((hc.set 0 (.int .i64 1)).set 1 (.int .i64 0)).set 2 (.int .u8 8)⟩
        · exact ⟨a, b, c, ((Below.heap_setCell _ _ _ _ hgg).trans ((Below.heap_setCell _ _ _ _ hgg).trans (Below.heap_setCell _ _ _ _ hgg))).trans hc⟩
  · intro bl y w10 f hall hS hd
    have e5 : y 5 = _ := hd 5 (by decide)
    obtain ⟨_, g, e6, hg, hB⟩ := hS.2.2 (hall 7 (by decide))
    have HSV := Lib.hid (HS.out.next hS.1)
    clear hd hall hS
    obtain ⟨y, rfl⟩ := upd_at (y := y) (i := 5) e5
    obtain ⟨y, rfl⟩ := upd_at (y := y) (i := 6) e6
    dsimp [upd]
    refine wpAny_one (i := 8) (by kernel_rfl) ?_
    refine wpOp_step rfl (fun K2 hK2 => ?_)
    go_simp
    refine hK2 _ _ ?_
    clear hK2 K2
    refine wpAny_done (by kernel_rfl) ?_ _
    have HBV := Lib.hid hB
    clear hB e5 e6 hg HS
    have c0 := HSV.out.ht.cell 0
    have c1 := HSV.out.ht.cell 1
    have c2 := HSV.out.ht.cell 2
    simp only [List.getElem?_toArray, List.getElem?_cons_zero, List.getElem?_cons_succ] at c0 c1 c2
    have d0 := HBV.out.cell 0
    have d1 := HBV.out.cell 1
    have d2 := HBV.out.cell 2
    simp only [List.getElem?_toArray, List.getElem?_cons_zero, List.getElem?_cons_succ] at d0 d1 d2
    go_wp2_with fail
    refine (step_any 2 3 A 4 4 san3 ⟨1, 0, 8⟩ 0 rfl ⟨by decide, by decide, by decide⟩ (by decide) w10 HSV.out.hr).mono ?_
    rw [s3_step2]
    rintro e w11 ⟨rfl, hb⟩
    dsimp only [St.zero, St.val]
    have HS11 : Hid (S4 w q A g (w11.alloc (.cells #[.int .i64 0, .int .i64 0, .int .u8 0] 26))) := (S4.next ⟨HSV.out, HBV.out⟩ hb).box _ _
    clear hb c0 c1 c2 d0 d1 d2 HSV HBV
    go_upto_region 4 with fail
    obtain ⟨g11, hg11⟩ : ∃ g, w11.heap.size = g := ⟨_, rfl⟩
    generalize w11.alloc (.cells #[.int .i64 0, .int .i64 0, .int .u8 0] 26) = x1 at *
    simp only [hg11]
    clear hg11
    have c0 := HS11.out.1.ht.cell 0
    have c1 := HS11.out.1.ht.cell 1
    have c2 := HS11.out.1.ht.cell 2
    simp only [List.getElem?_toArray, List.getElem?_cons_zero, List.getElem?_cons_succ] at c0 c1 c2
    have d0 := HS11.out.2.cell 0
    have d1 := HS11.out.2.cell 1
    have d2 := HS11.out.2.cell 2
    simp only [List.getElem?_toArray, List.getElem?_cons_zero, List.getElem?_cons_succ] at d0 d1 d2
    go_wp2_with fail
    refine (step_any 2 3 A 4 4 san3 ⟨1, 0, 8⟩ 4 rfl ⟨by decide, by decide, by decide⟩ (by decide) x1 HS11.out.1.hr).mono ?_
    rw [s3_step3]
    rintro e w12 ⟨rfl, hb⟩
    dsimp only [St.zero, St.val]
    have HS12 : Hid (S4 w q A g (w12.alloc (.cells #[.int .i64 0, .int .i64 0, .int .u8 0] 26))) := (HS11.out.next hb).box _ _
    clear hb c0 c1 c2 d0 d1 d2 HS11
    go_upto_region 5 with fail
    obtain ⟨g12, hg12⟩ : ∃ g, w12.heap.size = g := ⟨_, rfl⟩
    generalize w12.alloc (.cells #[.int .i64 0, .int .i64 0, .int .u8 0] 26) = x2 at *
    simp only [hg12]
    clear hg12
    have c0 := HS12.out.1.ht.cell 0
    have c1 := HS12.out.1.ht.cell 1
    have c2 := HS12.out.1.ht.cell 2
    simp only [List.getElem?_toArray, List.getElem?_cons_zero, List.getElem?_cons_succ] at c0 c1 c2
    have HS13 : Hid (S4 w q A g (x2.alloc (.cells #[.int .i64 1, .int .i64 2, .int .i64 3, .int .i64 0] 3))) := HS12.out.box _ _
    have HP13 : Hid (SeqN (x2.alloc (.cells #[.int .i64 1, .int .i64 2, .int .i64 3, .int .i64 0] 3)) (x2.alloc (.cells #[.int .i64 1, .int .i64 2, .int .i64 3, .int .i64 0] 3)).heap.size (some ⟨x2.heap.size, 0, none⟩) [1, 2, 3, 0]) := SeqN.lit x2 [1, 2, 3, 0] _
    go_wp2_with fail
    generalize x2.alloc (.cells #[.int .i64 1, .int .i64 2, .int .i64 3, .int .i64 0] 3) = x3 at *
    refine (run3 HS13.out.1 _ 4 4 [1, 2, 3, 0] rfl HP13.out (by decide)).mono ?_
    rintro e w13 ⟨CA, ck, rfl, hsq, hb⟩
    rw [s3_run1.1, s3_run1.2.1, s3_run1.2.2.1, s3_run1.2.2.2, str_1a]
    rw [s3_run1.2.1] at hsq
    generalize (runT san3 [1, 2, 3, 0]).st = st1
    obtain ⟨ta, tb, tc⟩ := st1
    dsimp only
    have HS14 := Lib.hid (HS13.out.next hb)
    have HC14 := Lib.hid hsq
    clear hb c0 c1 c2 HS12 HS13 HP13 hsq
    go_upto_region 6 with fail
    have HS15 : Hid (S5 w q A g w13.heap.size CA ck ta tb tc (w13.alloc (.cells #[.string ⟨#[49, 32, 97]⟩, .slice CA 4 ck, .int .i64 4, .int .i64 ta, .int .i64 tb, .int .u8 tc, .bool true] 41))) :=
      ⟨HS14.out.box _ _, Blk.new _ _ _, (HC14.out.keep (below_box _ _ _)).more (below_box _ _ _).size⟩
    obtain ⟨g8, hg8⟩ : ∃ g, w13.heap.size = g := ⟨_, rfl⟩
    rw [hg8] at HS15
    generalize w13.alloc (.cells #[.string ⟨#[49, 32, 97]⟩, .slice CA 4 ck, .int .i64 4, .int .i64 ta, .int .i64 tb, .int .u8 tc, .bool true] 41) = x4 at *
    simp only [hg8]
    clear hg8 HS14 HC14
    have c0 := HS15.out.1.1.ht.cell 0
    have c1 := HS15.out.1.1.ht.cell 1
    have c2 := HS15.out.1.1.ht.cell 2
    simp only [List.getElem?_toArray, List.getElem?_cons_zero, List.getElem?_cons_succ] at c0 c1 c2
    have HS16 : Hid (S5 w q A g g8 CA ck ta tb tc (x4.alloc (.cells #[.int .i64 1, .int .i64 0] 3))) := HS15.out.box _ _
    have HP16 : Hid (SeqN (x4.alloc (.cells #[.int .i64 1, .int .i64 0] 3)) (x4.alloc (.cells #[.int .i64 1, .int .i64 0] 3)).heap.size (some ⟨x4.heap.size, 0, none⟩) [1, 0]) := SeqN.lit x4 [1, 0] _
    go_wp2_with fail
    generalize x4.alloc (.cells #[.int .i64 1, .int .i64 0] 3) = x5 at *
    refine (run3 HS16.out.1.1 _ 2 2 [1, 0] rfl HP16.out (by decide)).mono ?_
    rintro e w16 ⟨CB, cl, rfl, _, hb⟩
    rw [s3_run2.1, s3_run2.2]
    generalize (runT san3 [1, 0]).st = st2
    generalize strOf (runT san3 [1, 0]).p = stq2
    generalize (runT san3 [1, 0]).c.length = nn2
    obtain ⟨ua, ub, uc⟩ := st2
    dsimp only
    have HS17 := Lib.hid (HS16.out.next hb)
    clear hb c0 c1 c2 HS15 HS16 HP16
    go_upto_region 7 with fail
    have HS18 : Hid (S5 w q A g g8 CA ck ta tb tc (w16.alloc (.cells #[.string stq2, .slice CB nn2 cl, .int .i64 (1 : Nat), .int .i64 ua, .int .i64 ub, .int .u8 uc, .bool false] 41))) := HS17.out.box _ _
    have HT18 : Hid (T9 w16.heap.size (w16.alloc (.cells #[.string stq2, .slice CB nn2 cl, .int .i64 (1 : Nat), .int .i64 ua, .int .i64 ub, .int .u8 uc, .bool false] 41))) := ⟨_, _, _, _, _, Blk.new _ _ _⟩
    obtain ⟨g9, hg9⟩ : ∃ g, w16.heap.size = g := ⟨_, rfl⟩
    rw [hg9] at HT18
    generalize w16.alloc (.cells #[.string stq2, .slice CB nn2 cl, .int .i64 (1 : Nat), .int .i64 ua, .int .i64 ub, .int .u8 uc, .bool false] 41) = x6 at *
    simp only [hg9]
    clear hg9 HS17
    have c0 := HS18.out.1.1.ht.cell 0
    have c1 := HS18.out.1.1.ht.cell 1
    have c2 := HS18.out.1.1.ht.cell 2
    simp only [List.getElem?_toArray, List.getElem?_cons_zero, List.getElem?_cons_succ] at c0 c1 c2
    have HS19 : Hid (S5 w q A g g8 CA ck ta tb tc (x6.alloc (.cells #[.int .i64 1] 3))) := HS18.out.box _ _
    have HT19 : Hid (T9 g9 (x6.alloc (.cells #[.int .i64 1] 3))) := HT18.out.next (below_box _ _ _)
    have HP19 : Hid (SeqN (x6.alloc (.cells #[.int .i64 1] 3)) (x6.alloc (.cells #[.int .i64 1] 3)).heap.size (some ⟨x6.heap.size, 0, none⟩) [1]) := SeqN.lit x6 [1] _
    go_wp2_with fail
    generalize x6.alloc (.cells #[.int .i64 1] 3) = x7 at *
    refine (run3 HS19.out.1.1 _ 1 1 [1] rfl HP19.out (by decide)).mono ?_
    rintro e w19 ⟨CD, cm, rfl, _, hb⟩
    rw [s3_run3.1, s3_run3.2]
    generalize (runT san3 [1]).st = st3
    generalize strOf (runT san3 [1]).p = stq3
    generalize (runT san3 [1]).c.length = nn3
    obtain ⟨va, vb, vc⟩ := st3
    dsimp only
    have HS20 := Lib.hid (HS19.out.next hb)
    have HT20 := Lib.hid (HT19.out.next hb)
    clear hb c0 c1 c2 HS18 HS19 HP19 HT18 HT19
    go_upto_region 8 with fail
    have HS21 : Hid (S5 w q A g g8 CA ck ta tb tc (w19.alloc (.cells #[.string stq3, .slice CD nn3 cm, .int .i64 (1 : Nat), .int .i64 va, .int .i64 vb, .int .u8 vc, .bool false] 41))) := HS20.out.box _ _
    have HT21 : Hid (T9 g9 (w19.alloc (.cells #[.string stq3, .slice CD nn3 cm, .int .i64 (1 : Nat), .int .i64 va, .int .i64 vb, .int .u8 vc, .bool false] 41)) ∧ T9 w19.heap.size (w19.alloc (.cells #[.string stq3, .slice CD nn3 cm, .int .i64 (1 : Nat), .int .i64 va, .int .i64 vb, .int .u8 vc, .bool false] 41))) := ⟨HT20.out.next (below_box _ _ _), ⟨_, _, _, _, _, Blk.new _ _ _⟩⟩
    obtain ⟨g10, hg10⟩ : ∃ g, w19.heap.size = g := ⟨_, rfl⟩
    rw [hg10] at HT21
    generalize w19.alloc (.cells #[.string stq3, .slice CD nn3 cm, .int .i64 (1 : Nat), .int .i64 va, .int .i64 vb, .int .u8 vc, .bool false] 41) = x8 at *
    simp only [hg10]
    clear hg10 HS20 HT20
    have c0 := HS21.out.1.1.ht.cell 0
    have c1 := HS21.out.1.1.ht.cell 1
    have c2 := HS21.out.1.1.ht.cell 2
    simp only [List.getElem?_toArray, List.getElem?_cons_zero, List.getElem?_cons_succ] at c0 c1 c2
    go_wp2_with fail
    refine (states_any 2 3 A 4 4 san3 x8 rfl HS21.out.1.1.hr s3_good (by decide) (by decide)).mono ?_
    rintro e w21 ⟨LA, lk, rfl, hst, hb⟩
    rw [s3_states] at hst ⊢
    rw [show want3.length = 7 from rfl]
    obtain ⟨b1, rfl, hb1, hc1⟩ := hst (by decide)
    have HS22 := Lib.hid (HS21.out.next hb)
    have HT22 : Hid (T9 g9 w21 ∧ T9 g10 w21) := ⟨HT21.out.1.next hb, HT21.out.2.next hb⟩
    have HC1 := Lib.hid hc1
    clear hb c0 c1 c2 HS21 HT21 hst hc1
    go_upto_region 9 with fail
    have HW23 : Hid (Blk (w21.alloc (.cells #[.int .i64 0, .int .i64 0, .int .u8 63, .int .i64 0, .int .i64 1, .int .u8 63, .int .i64 1, .int .i64 0, .int .u8 8, .int .i64 1, .int .i64 1, .int .u8 8, .int .i64 1, .int .i64 3, .int .u8 63, .int .i64 0, .int .i64 4, .int .u8 63, .int .i64 1, .int .i64 4, .int .u8 8] 26)) w21.heap.size 26 wantVals) := Blk.new _ _ _
    have HS23 : Hid (S5 w q A g g8 CA ck ta tb tc (w21.alloc (.cells #[.int .i64 0, .int .i64 0, .int .u8 63, .int .i64 0, .int .i64 1, .int .u8 63, .int .i64 1, .int .i64 0, .int .u8 8, .int .i64 1, .int .i64 1, .int .u8 8, .int .i64 1, .int .i64 3, .int .u8 63, .int .i64 0, .int .i64 4, .int .u8 63, .int .i64 1, .int .i64 4, .int .u8 8] 26))) := HS22.out.box _ _
    have HT23 : Hid (T9 g9 (w21.alloc (.cells #[.int .i64 0, .int .i64 0, .int .u8 63, .int .i64 0, .int .i64 1, .int .u8 63, .int .i64 1, .int .i64 0, .int .u8 8, .int .i64 1, .int .i64 1, .int .u8 8, .int .i64 1, .int .i64 3, .int .u8 63, .int .i64 0, .int .i64 4, .int .u8 63, .int .i64 1, .int .i64 4, .int .u8 8] 26)) ∧ T9 g10 (w21.alloc (.cells #[.int .i64 0, .int .i64 0, .int .u8 63, .int .i64 0, .int .i64 1, .int .u8 63, .int .i64 1, .int .i64 0, .int .u8 8, .int .i64 1, .int .i64 1, .int .u8 8, .int .i64 1, .int .i64 3, .int .u8 63, .int .i64 0, .int .i64 4, .int .u8 63, .int .i64 1, .int .i64 4, .int .u8 8] 26))) := ⟨HT22.out.1.next (below_box _ _ _), HT22.out.2.next (below_box _ _ _)⟩
    have HC23 : Hid (∀ j (h : j < want3.length), (w21.alloc (.cells #[.int .i64 0, .int .i64 0, .int .u8 63, .int .i64 0, .int .i64 1, .int .u8 63, .int .i64 1, .int .i64 0, .int .u8 8, .int .i64 1, .int .i64 1, .int .u8 8, .int .i64 1, .int .i64 3, .int .u8 63, .int .i64 0, .int .i64 4, .int .u8 63, .int .i64 1, .int .i64 4, .int .u8 8] 26)).cell? ⟨b1, j * 3, none⟩ = some (.int .i64 want3[j].mode) ∧ (w21.alloc (.cells #[.int .i64 0, .int .i64 0, .int .u8 63, .int .i64 0, .int .i64 1, .int .u8 63, .int .i64 1, .int .i64 0, .int .u8 8, .int .i64 1, .int .i64 1, .int .u8 8, .int .i64 1, .int .i64 3, .int .u8 63, .int .i64 0, .int .i64 4, .int .u8 63, .int .i64 1, .int .i64 4, .int .u8 8] 26)).cell? ⟨b1, j * 3 + 1, none⟩ = some (.int .i64 want3[j].last) ∧ (w21.alloc (.cells #[.int .i64 0, .int .i64 0, .int .u8 63, .int .i64 0, .int .i64 1, .int .u8 63, .int .i64 1, .int .i64 0, .int .u8 8, .int .i64 1, .int .i64 1, .int .u8 8, .int .i64 1, .int .i64 3, .int .u8 63, .int .i64 0, .int .i64 4, .int .u8 63, .int .i64 1, .int .i64 4, .int .u8 8] 26)).cell? ⟨b1, j * 3 + 2, none⟩ = some (.int .u8 want3[j].need)) := by
      have key : ∀ i, (w21.alloc (.cells #[.int .i64 0, .int .i64 0, .int .u8 63, .int .i64 0, .int .i64 1, .int .u8 63, .int .i64 1, .int .i64 0, .int .u8 8, .int .i64 1, .int .i64 1, .int .u8 8, .int .i64 1, .int .i64 3, .int .u8 63, .int .i64 0, .int .i64 4, .int .u8 63, .int .i64 1, .int .i64 4, .int .u8 8] 26)).cell? ⟨b1, i, none⟩ = w21.cell? ⟨b1, i, none⟩ := fun i => (below_box w21 _ _).cell (p := ⟨b1, i, none⟩) hb1
      exact fun j hj => ⟨(key _).trans (HC1.out j hj).1, (key _).trans (HC1.out j hj).2.1, (key _).trans (HC1.out j hj).2.2⟩
    have hs23 : (w21.alloc (.cells #[.int .i64 0, .int .i64 0, .int .u8 63, .int .i64 0, .int .i64 1, .int .u8 63, .int .i64 1, .int .i64 0, .int .u8 8, .int .i64 1, .int .i64 1, .int .u8 8, .int .i64 1, .int .i64 3, .int .u8 63, .int .i64 0, .int .i64 4, .int .u8 63, .int .i64 1, .int .i64 4, .int .u8 8] 26)).heap.size = w21.heap.size + 1 := by simp
    obtain ⟨b2, hb2⟩ : ∃ g, w21.heap.size = g := ⟨_, rfl⟩
    rw [hb2] at HW23 hb1 hs23
    generalize w21.alloc (.cells #[.int .i64 0, .int .i64 0, .int .u8 63, .int .i64 0, .int .i64 1, .int .u8 63, .int .i64 1, .int .i64 0, .int .u8 8, .int .i64 1, .int .i64 1, .int .u8 8, .int .i64 1, .int .i64 3, .int .u8 63, .int .i64 0, .int .i64 4, .int .u8 63, .int .i64 1, .int .i64 4, .int .u8 8] 26) = x9 at *
    simp only [hb2]
    clear hb2 HS22 HT22 HC1
    have c0 := HS23.out.1.1.ht.cell 0
    have c1 := HS23.out.1.1.ht.cell 1
    have c2 := HS23.out.1.1.ht.cell 2
    simp only [List.getElem?_toArray, List.getElem?_cons_zero, List.getElem?_cons_succ] at c0 c1 c2
    go_wp2_with fail
    refine (alive_any 2 3 A 4 4 san3 x9 rfl HS23.out.1.1.hr s3_good (by decide) (by decide) (by decide)).mono ?_
    rintro e w23 ⟨b3, rfl, hal, _, hb3, hb⟩
    rw [s3_alive] at hal
    rw [s3_states, show want3.length = 7 from rfl]
    have HS24 := Lib.hid (HS23.out.next hb)
    have HT24 : Hid (T9 g9 w23 ∧ T9 g10 w23) := ⟨HT23.out.1.next hb, HT23.out.2.next hb⟩
    have HC24 : Hid (S6 b1 b2 b3 w23) := by
      have key : ∀ b i, b < x9.heap.size → w23.cell? ⟨b, i, none⟩ = x9.cell? ⟨b, i, none⟩ := fun b i hB => hb.cell (p := ⟨b, i, none⟩) hB
      have hw := want_cells HW23.out
      have hs := hb.size
      refine ⟨fun j hj => ⟨(key _ _ (by omega)).trans (HC23.out j hj).1, (key _ _ (by omega)).trans (HC23.out j hj).2.1, (key _ _ (by omega)).trans (HC23.out j hj).2.2⟩, fun j hj => ⟨(key _ _ (by omega)).trans (hw j hj).1, (key _ _ (by omega)).trans (hw j hj).2.1, (key _ _ (by omega)).trans (hw j hj).2.2⟩, fun j hj => ?_, by omega, by omega, hal.lt⟩
      rw [hal.cell j]
      rcases j with _ | _ | _ | _ | _ | _ | _ | j <;> first | rfl | omega
    clear hb c0 c1 c2 HS23 HT23 HC23 HW23 hal hs23 hb1 hb3
    go_upto_region 12 with fail
    go_wp2_with fail
    go_loopw [14] (fun x wr => ∃ j : Nat, x = .int .i64 j ∧ j ≤ 7 ∧ Below w23.heap.size w23 wr) (fun x _ => 7 - (intOf x).toNat)
    case atStart => exact ⟨0, rfl, by omega, Below.refl _ _⟩
    case round =>
      obtain ⟨j, rfl, hj, hbr⟩ := hrel
      by_cases hlt : j < 7
      · have hjl : j < want3.length := hlt
        have h6 := HC24.out.next hbr
        obtain ⟨p0, p1, p2⟩ := h6.h1 j hjl
        obtain ⟨q0, q1, q2⟩ := h6.h2 j hjl
        have r0 := h6.h3 j hlt
        generalize want3[j] = sj at *
        obtain ⟨mo, la, ne⟩ := sj
        dsimp only at p0 p1 p2 q0 q1 q2
        have HB := Lib.hid hbr
        clear hbr h6
        go_upto_region 15 with fail
        go_region
        go_wp2_with fail
        exact ⟨⟨j + 1, by go_num, by omega, HB.out.drew⟩, by simp [intOf]; omega⟩
      · have : j = 7 := by omega
        subst this
        have HS25 := Lib.hid (HS24.out.next hbr)
        have HT25 : Hid (T9 g9 wr ∧ T9 g10 wr) := ⟨HT24.out.1.next hbr, HT24.out.2.next hbr⟩
        have HC25 := Lib.hid (HC24.out.next hbr)
        clear hbr HS24 HT24 HC24
        go_upto_region 17 with fail
        have d0 := HS25.out.1.2.cell 0
        have d1 := HS25.out.1.2.cell 1
        have d2 := HS25.out.1.2.cell 2
        simp only [List.getElem?_toArray, List.getElem?_cons_zero, List.getElem?_cons_succ] at d0 d1 d2
        go_wp2_with fail
        refine (start_any _).mono ?_
        rintro e w25 ⟨rfl, hb⟩
        have HS26 := Lib.hid (HS25.out.next hb)
        have HT26 : Hid (T9 g9 w25 ∧ T9 g10 w25) := ⟨HT25.out.1.next hb, HT25.out.2.next hb⟩
        have HC26 := Lib.hid (HC25.out.next hb)
        clear hb d0 d1 d2 HS25 HT25 HC25
        rw [show St.start.val = .agg #[.int .i64 0, .int .i64 0, .int .u8 63] from rfl]
        go_upto_region 18 with fail
        have d0 := HS26.out.2.1.cell 0
        have d1 := HS26.out.2.1.cell 1
        have d2 := HS26.out.2.1.cell 2
        have d6 := HS26.out.2.1.cell 6
        simp only [List.getElem?_toArray, List.getElem?_cons_zero, List.getElem?_cons_succ] at d0 d1 d2 d6
        go_wp2_with fail
        have hbx := below_box w25 #[.int .u8 60, .int .u8 1, .int .u8 0, .int .u8 1] 64
        have HS27 := Lib.hid (HS26.out.next hbx)
        have HT27 : Hid (T9 g9 _ ∧ T9 g10 _) := ⟨HT26.out.1.next hbx, HT26.out.2.next hbx⟩
        have HC27 := Lib.hid (HC26.out.next hbx)
        have HL27 : Hid (Seq (w25.alloc (.cells #[.int .u8 60, .int .u8 1, .int .u8 0, .int .u8 1] 64)) (w25.alloc (.cells #[.int .u8 60, .int .u8 1, .int .u8 0, .int .u8 1] 64)).heap.size (some ⟨w25.heap.size, 0, none⟩) [60, 1, 0, 1]) := (Seq.lit w25 _ [60, 1, 0, 1]).more (by simp)
        clear hbx HS26 HT26 HC26 d0 d1 d2 d6
        generalize w25.alloc (.cells #[.int .u8 60, .int .u8 1, .int .u8 0, .int .u8 1] 64) = w26 at *
        refine (sameCells_any CA _ 4 4 ck 4 [60, 1, 0, 1] [60, 1, 0, 1] w26 rfl rfl HS27.out.2.2 HL27.out (by decide)).mono ?_
        rintro e w27 ⟨rfl, hb⟩
        rw [show eqB ([60, 1, 0, 1] : List Int) [60, 1, 0, 1] = true from by decide]
        have HS28 := Lib.hid (HS27.out.next hb)
        have HT28 : Hid (T9 g9 w27 ∧ T9 g10 w27) := ⟨HT27.out.1.next hb, HT27.out.2.next hb⟩
        have HC28 := Lib.hid (HC27.out.next hb)
        clear hb HS27 HT27 HC27 HL27
        obtain ⟨⟨za, zb, zc, zd, ze, hz⟩, ya, yb, yc, yd, ye, hy⟩ := HT28.out
        have d0 := HS28.out.2.1.cell 0
        have d1 := HS28.out.2.1.cell 1
        have d2 := HS28.out.2.1.cell 2
        have d6 := HS28.out.2.1.cell 6
        simp only [List.getElem?_toArray, List.getElem?_cons_zero, List.getElem?_cons_succ] at d0 d1 d2 d6
        have z2 := hz.cell 2
        have z6 := hz.cell 6
        simp only [List.getElem?_toArray, List.getElem?_cons_zero, List.getElem?_cons_succ] at z2 z6
        have y2 := hy.cell 2
        have y6 := hy.cell 6
        simp only [List.getElem?_toArray, List.getElem?_cons_zero, List.getElem?_cons_succ] at y2 y6
        clear hz hy HT28
        go_upto_region 19 with fail
        have hS : SA9 w27 A q g b1 w27.drew := by
          have a := HS28.out.1.1.ht
          have b := HS28.out.1.2
          obtain ⟨c0, c1, c2⟩ := HC28.out.h1 1 (by decide)
          exact ⟨(Below.refl _ _).drew, a.cell 0, a.cell 1, a.cell 2, b.cell 0, b.cell 1, b.cell 2, c0, c1, c2⟩
        have HB28 := Lib.hid HS28.out.1.1.hb
        clear d0 d1 d2 d6 z2 z6 y2 y6 HS28 HC28
        unfold SA9 at hS
        go_region_held3 (fun w' => Below w27.heap.size w27 w' ∧ w'.cell? ⟨q, 0, none⟩ = some (.int .i64 2) ∧ w'.cell? ⟨q, 1, none⟩ = some (.int .u8 3) ∧ w'.cell? ⟨q, 2, none⟩ = some (.slice A 4 4) ∧ w'.cell? ⟨g, 0, none⟩ = some (.int .i64 1) ∧ w'.cell? ⟨g, 1, none⟩ = some (.int .i64 0) ∧ w'.cell? ⟨g, 2, none⟩ = some (.int .u8 8) ∧ w'.cell? ⟨b1, 3, none⟩ = some (.int .i64 0) ∧ w'.cell? ⟨b1, 4, none⟩ = some (.int .i64 1) ∧ w'.cell? ⟨b1, 5, none⟩ = some (.int .u8 63)) (first | assumption | (apply SA9.keep; (first | assumption | exact Below.drew (Below.refl _ _) | exact below_box _ _ _); assumption))
          (first | (go_at_call 14; refine (acc_lit _ _ _ _ _ (by decide) (by first | exact s3_acc.1 | exact s3_acc.2.1 | exact s3_acc.2.2) _).mono ?_; rintro e wa ⟨rfl, hba⟩))
        rename_i hheld
        go_wp2_with fail
        refine bodyPost_ret (v := .bool true) (by simp [results, Try.results10, go_sem]) rfl ⟨rfl, ?_⟩
        exact HB28.out.trans (hheld.1.mono HB28.out.size)
end Go.Proofs.Ytkjlpmkhifjmdaa
