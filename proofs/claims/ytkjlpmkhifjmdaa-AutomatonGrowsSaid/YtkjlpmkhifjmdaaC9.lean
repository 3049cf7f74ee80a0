/- Merged by program: Gw1 Eq1 Hd OpenW Lw9a Lw9 -/
import Derived.Test.YtkjlpmkhifjmdaaQ13
import Derived.Test.YtkjlpmkhifjmdaaQ17
import Derived.Test.YtkjlpmkhifjmdaaQ18
import Derived.Test.YtkjlpmkhifjmdaaQ5
import Derived.Test.YtkjlpmkhifjmdaaQ22
import Derived.Test.YtkjlpmkhifjmdaaQ20
import Derived.Test.YtkjlpmkhifjmdaaQ21
import Derived.Test.YtkjlpmkhifjmdaaQ15
import Derived.ProofKit
import Derived.OpenShut

/-! The memory while 'append(append([]Rule{}, rules...), rule)' is computed, in any order. -/
namespace Go.Proofs.Ytkjlpmkhifjmdaa
open Go.RowKit
structure SG (V : World) (lo : Nat) (rs : List Rule) (m am : Int) (b : Nat → Bool) (y : Nat → Value) (w : World) : Prop where
  blw : Below V.heap.size V w
  k13 : b 13 = true → b 9 = true
  k14 : b 14 = true → b 13 = true
  k15 : b 15 = true → b 14 = true
  k16 : b 16 = true → b 15 = true
  c6 : b 6 = true → b 9 = false → MadeB w V.heap.size lo (y 6) []
  c9 : b 9 = true → b 15 = false → MadeB w V.heap.size lo (y 9) rs
  c13 : b 13 = true → b 15 = false → ∃ x, IsRule lo x (y 13) w ∧ x.fits
  c14 : b 14 = true → b 15 = false → ∃ x, NewR lo [x] (y 14) w ∧ x.fits
  c15 : b 15 = true → ∃ x, MadeB w V.heap.size lo (y 15) (rs ++ [x]) ∧ x.fits
  c16 : b 16 = true → y 16 = .agg #[.int .i64 m, .int .u8 am, y 15]
section
variable {V w w' : World} {lo : Nat} {rs : List Rule} {m am : Int} {b : Nat → Bool} {y : Nat → Value} {v : Value}
theorem SG.start : SG V lo rs m am (fun _ => false) y V.drew :=
  ⟨(Below.refl _ _).drew, (fun h => by cases h), (fun h => by cases h), (fun h => by cases h), (fun h => by cases h), (fun h => by cases h), (fun h => by cases h), (fun h => by cases h), (fun h => by cases h), (fun h => by cases h), (fun h => by cases h)⟩
/-- What other operations leave, if they leave memory below. -/
theorem SG.same {i : Nat} (h : SG V lo rs m am b y w) (hi : i ≠ 6 ∧ i ≠ 9 ∧ i ≠ 13 ∧ i ≠ 14 ∧ i ≠ 15 ∧ i ≠ 16) (hb : Below w.heap.size w w') : SG V lo rs m am (fun j => if j = i then true else b j) (upd y i v) w' := by
  obtain ⟨h6, h9, h13, h14, h15, h16⟩ := hi
  obtain ⟨a0, k13, k14, k15, k16, c6, c9, c13, c14, c15, c16⟩ := h
  constructor
  · exact a0.trans (hb.mono a0.size)
  all_goals simp only [upd, if_neg h6.symm, if_neg h9.symm, if_neg h13.symm, if_neg h14.symm, if_neg h15.symm, if_neg h16.symm]
  · exact k13
  · exact k14
  · exact k15
  · exact k16
  · exact fun e1 e2 => (c6 e1 e2).keep hb
  · exact fun e1 e2 => (c9 e1 e2).keep hb
  · exact fun e1 e2 => by obtain ⟨x, h1, h2⟩ := c13 e1 e2; exact ⟨x, h1.keep hb, h2⟩
  · exact fun e1 e2 => by obtain ⟨x, h1, h2⟩ := c14 e1 e2; exact ⟨x, h1.keep hb, h2⟩
  · exact fun e1 => by obtain ⟨x, h1, h2⟩ := c15 e1; exact ⟨x, h1.keep hb, h2⟩
  · exact c16
theorem SG.at6 (h : SG V lo rs m am b y w) (hm : MadeB w' V.heap.size lo v []) (hb : Below w.heap.size w w') : SG V lo rs m am (fun j => if j = 6 then true else b j) (upd y 6 v) w' := by
  obtain ⟨a0, k13, k14, k15, k16, c6, c9, c13, c14, c15, c16⟩ := h
  constructor
  · exact a0.trans (hb.mono a0.size)
  all_goals simp [upd]
  · exact k13
  · exact k14
  · exact k15
  · exact k16
  · exact fun _ => hm
  · exact fun e1 e2 => (c9 e1 e2).keep hb
  · exact fun e1 e2 => by obtain ⟨x, h1, h2⟩ := c13 e1 e2; exact ⟨x, h1.keep hb, h2⟩
  · exact fun e1 e2 => by obtain ⟨x, h1, h2⟩ := c14 e1 e2; exact ⟨x, h1.keep hb, h2⟩
  · exact fun e1 => by obtain ⟨x, h1, h2⟩ := c15 e1; exact ⟨x, h1.keep hb, h2⟩
  · exact c16
theorem SG.at9 (h : SG V lo rs m am b y w) (h0 : b 9 = false) (hm : MadeB w' V.heap.size lo v rs) (hb : Below V.heap.size w w') : SG V lo rs m am (fun j => if j = 9 then true else b j) (upd y 9 v) w' := by
  obtain ⟨a0, k13, k14, k15, k16, c6, c9, c13, c14, c15, c16⟩ := h
  have n13 : b 13 = false := by cases e : b 13 with | false => rfl | true => rw [k13 e] at h0; cases h0
  have n14 : b 14 = false := by cases e : b 14 with | false => rfl | true => rw [k14 e] at n13; cases n13
  have n15 : b 15 = false := by cases e : b 15 with | false => rfl | true => rw [k15 e] at n14; cases n14
  have n16 : b 16 = false := by cases e : b 16 with | false => rfl | true => rw [k16 e] at n15; cases n15
  constructor
  · exact a0.trans hb
  all_goals simp [upd, n13, n14, n15, n16]
  exact hm
theorem SG.at13 {x : Rule} (h : SG V lo rs m am b y w) (h9 : b 9 = true) (h0 : b 13 = false) (hm : IsRule lo x v w') (hf : x.fits) (hb : Below w.heap.size w w') : SG V lo rs m am (fun j => if j = 13 then true else b j) (upd y 13 v) w' := by
  obtain ⟨a0, k13, k14, k15, k16, c6, c9, c13, c14, c15, c16⟩ := h
  have n14 : b 14 = false := by cases e : b 14 with | false => rfl | true => rw [k14 e] at h0; cases h0
  have n15 : b 15 = false := by cases e : b 15 with | false => rfl | true => rw [k15 e] at n14; cases n14
  have n16 : b 16 = false := by cases e : b 16 with | false => rfl | true => rw [k16 e] at n15; cases n15
  constructor
  · exact a0.trans (hb.mono a0.size)
  all_goals simp [upd, h9, n14, n15, n16]
  · exact (c9 h9 n15).keep hb
  · exact ⟨x, hm, hf⟩
theorem SG.at14 {x : Rule} (h : SG V lo rs m am b y w) (h13 : b 13 = true) (h0 : b 14 = false) (hm : NewR lo [x] v w') (hf : x.fits) (hb : Below w.heap.size w w') : SG V lo rs m am (fun j => if j = 14 then true else b j) (upd y 14 v) w' := by
  obtain ⟨a0, k13, k14, k15, k16, c6, c9, c13, c14, c15, c16⟩ := h
  have h9 := k13 h13
  have n15 : b 15 = false := by cases e : b 15 with | false => rfl | true => rw [k15 e] at h0; cases h0
  have n16 : b 16 = false := by cases e : b 16 with | false => rfl | true => rw [k16 e] at n15; cases n15
  constructor
  · exact a0.trans (hb.mono a0.size)
  all_goals simp [upd, h9, h13, n15, n16]
  · exact (c9 h9 n15).keep hb
  · obtain ⟨x', h1, h2⟩ := c13 h13 n15; exact ⟨x', h1.keep hb, h2⟩
  · exact ⟨x, hm, hf⟩
theorem SG.at15 {x : Rule} (h : SG V lo rs m am b y w) (h14 : b 14 = true) (h0 : b 15 = false) (hm : MadeB w' V.heap.size lo v (rs ++ [x])) (hf : x.fits) (hb : Below V.heap.size w w') : SG V lo rs m am (fun j => if j = 15 then true else b j) (upd y 15 v) w' := by
  obtain ⟨a0, k13, k14, k15, k16, c6, c9, c13, c14, c15, c16⟩ := h
  have h13 := k14 h14
  have h9 := k13 h13
  have n16 : b 16 = false := by cases e : b 16 with | false => rfl | true => rw [k16 e] at h0; cases h0
  constructor
  · exact a0.trans hb
  all_goals simp [upd, h9, h13, h14, n16]
  exact ⟨x, hm, hf⟩
theorem SG.at16 (h : SG V lo rs m am b y w) (h15 : b 15 = true) (hv : v = .agg #[.int .i64 m, .int .u8 am, y 15]) : SG V lo rs m am (fun j => if j = 16 then true else b j) (upd y 16 v) w := by
  obtain ⟨a0, k13, k14, k15, k16, c6, c9, c13, c14, c15, c16⟩ := h
  have h14 := k15 h15
  have h13 := k14 h14
  have h9 := k13 h13
  constructor
  · exact a0
  all_goals simp [upd, h9, h13, h14, h15]
  · exact c15 h15
  · exact hv
end
section
variable {ops : Array Oper}
/-- append of all rules of a row onto a row of the call's own, in a region that draws its order. -/
theorem wpOp_append_rules {i : Nat} {o : Oper} {a : Act} {w : World} {K : Act → World → Prop} {Q : Exit → Act → World → Prop} (hi : ops[i]? = some o) (hgd : o.guard = none) (s x : Operand)
    (ho : o.op = .call { callee := .builtin .append, args := #[s, x], argTypes := #[29, 29] })
    (base lo base2 : Nat) (v u : Value) (rs new : List Rule) (hs : a.eval s = v) (hm : MadeB w base lo v rs) (hx : a.eval x = u) (hn : MadeB w base2 lo u new) (hlen : rs.length + new.length ≤ 1000) (h0 : 0 < new.length) (hbase : base ≤ w.heap.size)
    (h : ∀ v' w', MadeB w' base lo v' (rs ++ new) → Onto base w w' → K (a.put o.dst v') w') : wpOp Try.prog ops Q i K a w := by
  obtain ⟨i0, hi0, hz0, hz1, hz2⟩ := info_parts info_rule
  obtain ⟨A, k, vals, e, hown, hr⟩ := hm
  obtain ⟨A2, k2, nv, e2, hown2, hnr⟩ := hn
  rcases hown2.2 with ⟨e3, hn0⟩ | ⟨g, cap, cur, e3, hg, hblk, hcap, _⟩
  · omega
  · have hcell := hown2.cells (g := g) (by rw [e3]; rfl)
    refine wpOp_step hi fun K2 hK2 => ?_
    refine step_append_own hgd s x 29 ho base 55 i0 (.agg #[.string ⟨#[]⟩, .slice none 0 0, .int .u8 0, .int .u8 0, .int .i64 0, .int .i64 0]) 6 64 Try.underlying29 hi0 hz0 hz1 hz2 rfl (by decide) v rs.length vals hs hown ⟨g, 0, none⟩ new.length cap nv (hx.trans e3) hnr.1.1 hcell hnr.oneCell ?_ ?_ hbase ?_
    · unfold maxLen; omega
    · omega
    intro v' w' h1 h2
    have hO := own_onto hown h2
    exact hK2 _ _ (h v' w' (Made.app hr hnr h1 hO h0) hO)
end
/-- What the operations give besides. -/
def phiGw (V : World) (L : List (Option Value)) (i : Nat) (v : Value) (w : World) : Prop := match L[i]? with
  | some (some u) => v = u
  | _ => if i = 17 then ∃ g, v = .pointer (some ⟨g, 0, none⟩) ∧ V.heap.size ≤ g ∧ Blk w g 31 #[.int .i64 0, .int .u8 0, .slice none 0 0] else True
theorem phiGw_keep {V w w' : World} {L : List (Option Value)} {i : Nat} {v : Value} (hw : ∀ g, Blk w g 31 #[.int .i64 0, .int .u8 0, .slice none 0 0] → Blk w' g 31 #[.int .i64 0, .int .u8 0, .slice none 0 0]) (h : phiGw V L i v w) : phiGw V L i v w' := by
  unfold phiGw at h ⊢
  generalize L[i]? = o at *
  match o, h with
  | some (some u), h => exact h
  | some none, h =>
    dsimp only at h ⊢
    split
    · rename_i e
      rw [if_pos e] at h
      obtain ⟨g, e1, hg, hB⟩ := h
      exact ⟨g, e1, hg, hw g hB⟩
    · trivial
  | none, h =>
    dsimp only at h ⊢
    split
    · rename_i e
      rw [if_pos e] at h
      obtain ⟨g, e1, hg, hB⟩ := h
      exact ⟨g, e1, hg, hw g hB⟩
    · trivial
theorem phiGw_below {V w w' : World} {L : List (Option Value)} {i : Nat} {v : Value} (hb : Below w.heap.size w w') (h : phiGw V L i v w) : phiGw V L i v w' := phiGw_keep (fun _ h => h.keep hb (Blk.lt h)) h
theorem phiGw_onto {V w w' : World} {L : List (Option Value)} {i base : Nat} {v : Value} (ho : Onto base w w') (h : phiGw V L i v w) : phiGw V L i v w' := phiGw_keep (fun _ h => ho.blk h (by decide)) h
def shm (m : Int) : Int := if m = 1 then 2 else 4
end Go.Proofs.Ytkjlpmkhifjmdaa

/-! law03's comparisons of lists, and the reference's of traces: what is equal is found so. -/
namespace Go.Proofs.Ytkjlpmkhifjmdaa
open Go.RowKit Go.Maps
set_option maxRecDepth 10000 in
set_option maxHeartbeats 1000000 in
theorem eqStates_any (A B : Option Addr) (n k l : Nat) (L : List St) (w : World) (hn : L.length = n) (hA : StAt w w.heap.size A L) (hB : StAt w w.heap.size B L) (hmax : n < 2 ^ 40) :
    Calls Try.prog 19 #[.slice A n k, .slice B n l] w fun e w' => e = .returned (.bool true) ∧ Below w.heap.size w w' := by
  have HA := Lib.hid hA
  have HB := Lib.hid hB
  have HN := Lib.hid hn
  clear hA hB hn
  go_enter Try.func19, Try.ntmps19
  go_wp2_with fail
  go_loopw [5] (fun x wr => ∃ j : Nat, x = .int .i64 j ∧ j ≤ n ∧ Below w.heap.size w wr) (fun x _ => n - (intOf x).toNat)
  case atStart => exact ⟨0, rfl, Nat.zero_le _, Below.refl _ _⟩
  case round =>
    obtain ⟨j, rfl, hj, hb⟩ := hrel
    by_cases hlt : j < n
    · have hjl : j < L.length := by have := HN.out; omega
      obtain ⟨b1, rfl, hb1, hc1⟩ := HA.out (by omega)
      obtain ⟨b2, rfl, hb2, hc2⟩ := HB.out (by omega)
      obtain ⟨p0, p1, p2⟩ := hc1 j hjl
      obtain ⟨q0, q1, q2⟩ := hc2 j hjl
      generalize L[j]'hjl = s at *
      obtain ⟨mo, la, ne⟩ := s
      dsimp only at p0 p1 p2 q0 q1 q2
      have c0 := (hb.cell (p := ⟨b1, j * 3, none⟩) hb1).trans p0
      have c1 := (hb.cell (p := ⟨b1, j * 3 + 1, none⟩) hb1).trans p1
      have c2 := (hb.cell (p := ⟨b1, j * 3 + 2, none⟩) hb1).trans p2
      have d0 := (hb.cell (p := ⟨b2, j * 3, none⟩) hb2).trans q0
      have d1 := (hb.cell (p := ⟨b2, j * 3 + 1, none⟩) hb2).trans q1
      have d2 := (hb.cell (p := ⟨b2, j * 3 + 2, none⟩) hb2).trans q2
      have HBW := Lib.hid hb
      have HL := Lib.hid hlt
      have hj0 : (0 : Int) ≤ (j : Int) := by omega
      have hjn : (j : Int) < (n : Int) := by omega
      clear p0 p1 p2 q0 q1 q2 hc1 hc2 hb
      go_upto_region 6 with fail
      go_region
      go_wp2_with fail
      exact ⟨⟨j + 1, by go_num, HL.out, HBW.out.drew⟩, by have := HL.out; simp [intOf]; omega⟩
    · have : j = n := by omega
      subst this
      have HBW := Lib.hid hb
      clear hb
      go_wp2_with fail
      go_ret
      exact ⟨rfl, HBW.out⟩
set_option maxRecDepth 10000 in
set_option maxHeartbeats 1000000 in
theorem eqBools_any (A B : Option Addr) (n k l : Nat) (R : List Bool) (w : World) (hn : R.length = n) (hA : BoolAt w w.heap.size A R) (hB : BoolAt w w.heap.size B R) (hmax : n < 2 ^ 40) :
    Calls Try.prog 22 #[.slice A n k, .slice B n l] w fun e w' => e = .returned (.bool true) ∧ Below w.heap.size w w' := by
  have HA := Lib.hid hA
  have HB := Lib.hid hB
  have HN := Lib.hid hn
  clear hA hB hn
  go_enter Try.func22, Try.ntmps22
  go_wp2_with fail
  go_loopw [5] (fun x wr => ∃ j : Nat, x = .int .i64 j ∧ j ≤ n ∧ Below w.heap.size w wr) (fun x _ => n - (intOf x).toNat)
  case atStart => exact ⟨0, rfl, Nat.zero_le _, Below.refl _ _⟩
  case round =>
    obtain ⟨j, rfl, hj, hb⟩ := hrel
    by_cases hlt : j < n
    · have hjl : j < R.length := by have := HN.out; omega
      obtain ⟨b1, rfl, hb1, hc1⟩ := HA.out (by omega)
      obtain ⟨b2, rfl, hb2, hc2⟩ := HB.out (by omega)
      have p0 := hc1 j hjl
      have q0 := hc2 j hjl
      generalize R[j]'hjl = v at *
      have c0 := (hb.cell (p := ⟨b1, j, none⟩) hb1).trans p0
      have d0 := (hb.cell (p := ⟨b2, j, none⟩) hb2).trans q0
      have HBW := Lib.hid hb
      have HL := Lib.hid hlt
      have hj0 : (0 : Int) ≤ (j : Int) := by omega
      have hjn : (j : Int) < (n : Int) := by omega
      clear p0 q0 hc1 hc2 hb
      go_upto_region 6 with fail
      go_region
      go_wp2_with fail
      exact ⟨⟨j + 1, by go_num, HL.out, HBW.out.drew⟩, by have := HL.out; simp [intOf]; omega⟩
    · have : j = n := by omega
      subst this
      have HBW := Lib.hid hb
      clear hb
      go_wp2_with fail
      go_ret
      exact ⟨rfl, HBW.out⟩
theorem eqB_same (xs : List Int) : eqB xs xs = true := by unfold eqB; simp
set_option maxRecDepth 10000 in
set_option maxHeartbeats 1000000 in
theorem same_any (p : ByteArray) (A B : Option Addr) (n k l : Nat) (xs : List Int) (at_ mo la ne : Int) (ok : Bool) (w : World) (hn : xs.length = n) (hA : Seq w w.heap.size A xs) (hB : Seq w w.heap.size B xs) (hmax : n < 2 ^ 40) :
    Calls Try.prog 16 #[.agg #[.string p, .slice A n k, .int .i64 at_, .int .i64 mo, .int .i64 la, .int .u8 ne, .bool ok], .agg #[.string p, .slice B n l, .int .i64 at_, .int .i64 mo, .int .i64 la, .int .u8 ne, .bool ok]] w fun e w' => e = .returned (.bool true) ∧ Below w.heap.size w w' := by
  have h0 := Blk.new w #[.string p, .slice A n k, .int .i64 at_, .int .i64 mo, .int .i64 la, .int .u8 ne, .bool ok] 41
  have b0 := below_box w #[.string p, .slice A n k, .int .i64 at_, .int .i64 mo, .int .i64 la, .int .u8 ne, .bool ok] 41
  have h1 := Blk.new (w.alloc (.cells #[.string p, .slice A n k, .int .i64 at_, .int .i64 mo, .int .i64 la, .int .u8 ne, .bool ok] 41)) #[.string p, .slice B n l, .int .i64 at_, .int .i64 mo, .int .i64 la, .int .u8 ne, .bool ok] 41
  have b1 := below_box (w.alloc (.cells #[.string p, .slice A n k, .int .i64 at_, .int .i64 mo, .int .i64 la, .int .u8 ne, .bool ok] 41)) #[.string p, .slice B n l, .int .i64 at_, .int .i64 mo, .int .i64 la, .int .u8 ne, .bool ok] 41
  simp only [World.size_alloc] at h1
  have H0 := Lib.hid (h0.box (vs := #[.string p, .slice B n l, .int .i64 at_, .int .i64 mo, .int .i64 la, .int .u8 ne, .bool ok]) (e := 41))
  have H1 := Lib.hid h1
  have HBB := Lib.hid (below_next b0 b1)
  clear h0 h1 b0 b1
  have HA := Lib.hid hA
  have HB := Lib.hid hB
  clear hA hB
  go_enter Try.func16, Try.ntmps16
  go_upto_region 1 with fail
  generalize (w.alloc (.cells #[.string p, .slice A n k, .int .i64 at_, .int .i64 mo, .int .i64 la, .int .u8 ne, .bool ok] 41)).alloc (.cells #[.string p, .slice B n l, .int .i64 at_, .int .i64 mo, .int .i64 la, .int .u8 ne, .bool ok] 41) = V at *
  obtain ⟨q, hq⟩ : ∃ q, w.heap.size = q := ⟨_, rfl⟩
  have HQ := Lib.hid hq
  rw [hq] at H0 H1
  simp only [hq]
  clear hq
  have c0 := H0.out.cell 0
  have c1 := H0.out.cell 1
  have d0 := H1.out.cell 0
  have d1 := H1.out.cell 1
  simp only [List.getElem?_toArray, List.getElem?_cons_zero, List.getElem?_cons_succ] at c0 c1 d0 d1
  have HA2 : Hid (Seq V V.heap.size A xs) := (HA.out.keep HBB.out).more HBB.out.size
  have HB2 : Hid (Seq V V.heap.size B xs) := (HB.out.keep HBB.out).more HBB.out.size
  go_wp2_with fail
  refine (sameCells_any A B n n k l xs xs V hn hn HA2.out HB2.out (by omega)).mono ?_
  rintro e w2 ⟨rfl, hb⟩
  rw [eqB_same]
  have G0 := Lib.hid (H0.out.keep hb H0.out.lt)
  have G1 := Lib.hid (H1.out.keep hb H1.out.lt)
  have HE := Lib.hid (below_next HBB.out hb)
  clear hb c0 c1 d0 d1 H0 H1 HBB HA2 HB2
  have c2 := G0.out.cell 2
  have c3 := G0.out.cell 3
  have c4 := G0.out.cell 4
  have c5 := G0.out.cell 5
  have c6 := G0.out.cell 6
  have d2 := G1.out.cell 2
  have d3 := G1.out.cell 3
  have d4 := G1.out.cell 4
  have d5 := G1.out.cell 5
  have d6 := G1.out.cell 6
  simp only [List.getElem?_toArray, List.getElem?_cons_zero, List.getElem?_cons_succ] at c2 c3 c4 c5 c6 d2 d3 d4 d5 d6
  go_wp2_with fail
  go_ret
  exact ⟨rfl, HE.out⟩
end Go.Proofs.Ytkjlpmkhifjmdaa

/-! What the operations of a drawn region give, as a list of what holds of each. -/
namespace Go.Proofs.Ytkjlpmkhifjmdaa
open Go.RowKit
def phiV (L : List (Option Value)) (t : TypeId) (cs : Array Value) (mk : Nat → Value) (i : Nat) (v : Value) (w : World) : Prop := match L[i]? with
  | some (some u) => v = u
  | some none => ∃ g, v = mk g ∧ Blk w g t cs
  | none => True
theorem phiV_keep {L : List (Option Value)} {t : TypeId} {cs : Array Value} {mk : Nat → Value} {i : Nat} {v : Value} {w w' : World} (hb : Below w.heap.size w w') (h : phiV L t cs mk i v w) : phiV L t cs mk i v w' := by
  unfold phiV at h ⊢
  split
  · rename_i u hu
    rw [hu] at h
    exact h
  · rename_i hu
    rw [hu] at h
    obtain ⟨g, e, hB⟩ := h
    exact ⟨g, e, hB.keep hb hB.lt⟩
  · trivial
/-- A value; a value of some form; a block that was made. -/
def pv (u : Value) : Value → World → Prop := fun v _ => v = u
def pe {α : Type} (f : α → Value) : Value → World → Prop := fun v _ => ∃ x, v = f x
def pb (mk : Nat → Value) (t : TypeId) (cs : Array Value) : Value → World → Prop := fun v w => ∃ g, v = mk g ∧ Blk w g t cs
def pq {α : Type} (f : α → Value) (p : α → World → Prop) : Value → World → Prop := fun v w => ∃ x, v = f x ∧ p x w
def Stays (p : Value → World → Prop) : Prop := ∀ v w w', p v w → Below w.heap.size w w' → p v w'
theorem pv_st {u : Value} : Stays (pv u) := fun _ _ _ h _ => h
theorem pe_st {α : Type} {f : α → Value} : Stays (pe f) := fun _ _ _ h _ => h
theorem pb_st {mk : Nat → Value} {t : TypeId} {cs : Array Value} : Stays (pb mk t cs) := fun _ _ _ ⟨g, e, hB⟩ hb => ⟨g, e, hB.keep hb hB.lt⟩
theorem pq_st {α : Type} {f : α → Value} {p : α → World → Prop} (h : ∀ x w w', p x w → Below w.heap.size w w' → p x w') : Stays (pq f p) := fun _ _ _ ⟨x, e, hp⟩ hb => ⟨x, e, h x _ _ hp hb⟩
def StayL : List (Value → World → Prop) → Prop
  | [] => True
  | p :: r => Stays p ∧ StayL r
theorem stay_nil : StayL [] := trivial
theorem stay_cons {p : Value → World → Prop} {r : List (Value → World → Prop)} (h : Stays p) (hr : StayL r) : StayL (p :: r) := ⟨h, hr⟩
def phiP (L : List (Value → World → Prop)) (i : Nat) (v : Value) (w : World) : Prop := match L[i]? with
  | some p => p v w
  | none => True
theorem stay_at : ∀ (L : List (Value → World → Prop)) (i : Nat) (p : Value → World → Prop), StayL L → L[i]? = some p → Stays p := by
  intro L
  induction L with
  | nil => intro i p _ h; simp at h
  | cons a r ih =>
    intro i p hs h
    cases i with
    | zero =>
      have e : a = p := by simpa using h
      rw [← e]; exact hs.1
    | succ i => exact ih i p hs.2 (by simpa using h)
theorem phiP_keep {L : List (Value → World → Prop)} (hs : StayL L) {i : Nat} {v : Value} {w w' : World} (h : phiP L i v w) (hb : Below w.heap.size w w') : phiP L i v w' := by
  unfold phiP at h ⊢
  split
  · rename_i p hp
    rw [hp] at h
    exact stay_at L i p hs hp v w w' h hb
  · trivial
end Go.Proofs.Ytkjlpmkhifjmdaa

/-! Opening an argument that describes one rule. -/
namespace Go.Proofs.Ytkjlpmkhifjmdaa
open Go.ChangeShapes Go.WideShapes Go.RowKit Go.Deep
/-- A description of a rule that has come in by value. -/
def RawV (w : World) (PA : Option Addr) (np : Nat) (CA : Option Addr) (nc : Nat) (ps cs : List Int) (l r u0 u1 : Int) : Prop :=
  (ps.length = np ∧ cs.length = nc) ∧ (Seq w w.heap.size PA ps ∧ Seq w w.heap.size CA cs) ∧ ((0 ≤ l ∧ l < 256) ∧ (0 ≤ r ∧ r < 256) ∧ (0 ≤ u0 ∧ u0 < 256) ∧ (0 ≤ u1 ∧ u1 < 256)) ∧ (∀ z ∈ ps, 0 ≤ z ∧ z < 256) ∧ (∀ z ∈ cs, 0 ≤ z ∧ z < 256)
theorem RawV.up {w w' : World} {PA : Option Addr} {np : Nat} {CA : Option Addr} {nc : Nat} {ps cs : List Int} {l r u0 u1 : Int} (h : RawV w PA np CA nc ps cs l r u0 u1) (hb : Below w.heap.size w w') : RawV w' PA np CA nc ps cs l r u0 u1 :=
  ⟨h.1, ⟨h.2.1.1.up hb, h.2.1.2.up hb⟩, h.2.2⟩
section
variable {H : Type} {enc : TypeId × Value → H} {W : World} {base : Nat} {spare : Nat → Bool} {held : Bool}
set_option maxRecDepth 10000 in
theorem open_rawrule {r : Go.Reach} {b0 : Nat} {v : Value} {d : DataW H} {p : List MemPlace} (hv : Value.okWide Try.prog W r b0 69 v) (h : DataW.Trod enc Try.prog W base spare held 69 v d p) :
    ∃ (PA : Option Addr) (np kp : Nat) (CA : Option Addr) (nc kc : Nat) (ps cs : List Int) (l r u0 u1 : Int), v = .agg #[.slice PA np kp, .slice CA nc kc, .int .u8 l, .int .u8 r, .int .u8 u0, .int .u8 u1] ∧ RawV W PA np CA nc ps cs l r u0 u1 := by
  obtain ⟨cs, rfl, hsz⟩ := okWide_struct Try.underlying69 hv
  obtain ⟨l⟩ := cs
  match l, hsz.trans (by kernel_rfl : _ = 6) with
  | [c0, c1, c2, c3, c4, c5], _ =>
    obtain ⟨fuel, hf⟩ := h
    obtain ⟨xs, n, _, _, _, hxl, hf⟩ := DataW.trod_struct Try.underlying69 hf
    match xs, hxl with
    | [y0, y1, y2, y3, y4], _ =>
      obtain ⟨PA, kp, ps, e0, hP, hpz⟩ := trod_bytes (v := c0) (hf 0 _ rfl)
      obtain ⟨CA, kc, qs, e1, hC, hcz⟩ := trod_bytes (v := c1) (hf 1 _ rfl)
      obtain ⟨l, e2, _, wl⟩ := DataW.trod_int (cs := [c2]) Try.underlying5 (hf 2 _ rfl)
      obtain ⟨r, e3, _, wr⟩ := DataW.trod_int (cs := [c3]) Try.underlying5 (hf 3 _ rfl)
      have h4 := hf 4 _ rfl
      obtain ⟨zs, m, _, _, _, hzl, hz⟩ := DataW.trod_array (cs := [c4, c5]) Try.underlying67 h4
      match zs, hzl with
      | [v4, v5], _ =>
        obtain ⟨u0, e4, _, w4⟩ := DataW.trod_int (cs := [c4]) Try.underlying5 (hz 0 (by decide))
        obtain ⟨u1, e5, _, w5⟩ := DataW.trod_int (cs := [c5]) Try.underlying5 (hz 1 (by decide))
        subst e0 e1
        obtain rfl : c2 = .int .u8 l := by simpa using e2
        obtain rfl : c3 = .int .u8 r := by simpa using e3
        obtain rfl : c4 = .int .u8 u0 := by simpa using e4
        obtain rfl : c5 = .int .u8 u1 := by simpa using e5
        have b2 := bounds_u8 wl
        have b3 := bounds_u8 wr
        have b4 := bounds_u8 w4
        have b5 := bounds_u8 w5
        exact ⟨PA, ps.length, kp, CA, qs.length, kc, ps, qs, l, r, u0, u1, rfl, ⟨rfl, rfl⟩, ⟨hP, hC⟩, ⟨⟨b2.1, by omega⟩, ⟨b3.1, by omega⟩, ⟨b4.1, by omega⟩, ⟨b5.1, by omega⟩⟩, hpz, hcz⟩
end
end Go.Proofs.Ytkjlpmkhifjmdaa

/-! law03.AutomatonGrows. -/
namespace Go.Proofs.Ytkjlpmkhifjmdaa
open Go.RowKit Go.Maps
theorem box_two9 (w : World) (r1 r2 : Array Value) {t1 t2 : TypeId} :
    Blk ((w.alloc (.cells r1 t1)).alloc (.cells r2 t2)) w.heap.size t1 r1 ∧ Blk ((w.alloc (.cells r1 t1)).alloc (.cells r2 t2)) (w.heap.size + 1) t2 r2 ∧ Below w.heap.size w ((w.alloc (.cells r1 t1)).alloc (.cells r2 t2)) := by
  have n2 := Blk.new (w.alloc (.cells r1 t1)) r2 t2
  have s : (w.alloc (.cells r1 t1)).heap.size = w.heap.size + 1 := by simp
  rw [s] at n2
  exact ⟨(Blk.new _ _ _).box, n2, ((Below.refl _ _).alloc (Nat.le_refl _) _).alloc (by simp) _⟩
/-- With all modes accepting a state remains accepting. -/
theorem acc_more {m a : Int} {rs : List Rule} (hG : GoodL m a rs) (ha : 0 ≤ a ∧ a < 256) (hm : 1 ≤ m ∧ m ≤ 2) : ∀ s : St, accB a s = true → accB (shm m - 1) s = true := by
  intro s h
  have h1 := hG.1
  unfold numsB at h1
  simp only [Bool.and_eq_true, decide_eq_true_eq] at h1
  have h2 := h1.1.1.2
  have h3 := h1.1.1.1.2
  unfold accB at h ⊢
  rw [Bool.and_eq_true] at h ⊢
  refine ⟨?_, h.2⟩
  have hb := h.1
  obtain ⟨j, hj⟩ : ∃ j, s.mode = j := ⟨_, rfl⟩
  rw [hj] at hb ⊢
  have hj2 : 0 ≤ j ∧ j < 8 := by
    unfold bitB at hb
    simp only [Bool.and_eq_true, decide_eq_true_eq] at hb
    exact ⟨hb.1, hb.2.1⟩
  have hj3 : j = 0 ∨ j = 1 ∨ j = 2 ∨ j = 3 ∨ j = 4 ∨ j = 5 ∨ j = 6 ∨ j = 7 := by omega
  clear h h1 hj hj2
  rcases (show m = 1 ∨ m = 2 by omega) with e | e
  · subst e
    obtain rfl : a = 1 := by
      have : a < 2 := by simpa using h2
      omega
    exact hb
  · subst e
    have h4 : a < 4 := by simpa using h2
    rcases (show a = 1 ∨ a = 2 ∨ a = 3 by omega) with e | e | e <;> subst e <;> rcases hj3 with e | e | e | e | e | e | e | e <;> subst e <;> revert hb <;> decide
def runX (rs : List Rule) (ks : List Int) (z : Option Addr × Nat) : Value := .agg #[.string (strOf (runT rs ks).p), .slice z.1 (runT rs ks).c.length z.2, .int .i64 ((runT rs ks).n : Nat), .int .i64 (runT rs ks).st.mode, .int .i64 (runT rs ks).st.last, .int .u8 (runT rs ks).st.need, .bool true]
set_option maxRecDepth 10000 in
set_option maxHeartbeats 4000000 in
theorem walk_grows (bs dr : Int) (A : Option Addr) (n k : Nat) (XA : Option Addr) (xk : Nat) (xs : List Int) (PA : Option Addr) (np kp : Nat) (CA : Option Addr) (nc kc : Nat) (ps cs : List Int) (l r u0 u1 : Int) (w : World) (hW : RawMs w w.heap.size A n) (hbs : 0 ≤ bs ∧ bs < 256) (hdr : 0 ≤ dr ∧ dr < 256) (hX : Seq w w.heap.size XA xs) (hxs : ∀ z ∈ xs, 0 ≤ z ∧ z < 256) (hV : RawV w PA np CA nc ps cs l r u0 u1) :
    Calls Try.prog 9 #[.agg #[.int .u8 bs, .int .u8 dr, .slice A n k], .slice XA xs.length xk, .agg #[.slice PA np kp, .slice CA nc kc, .int .u8 l, .int .u8 r, .int .u8 u0, .int .u8 u1]] w fun e w' => e = .returned (.bool true) ∧ Below w.heap.size w w' := by
  obtain ⟨g, hg⟩ : ∃ g, w.heap.size = g := ⟨_, rfl⟩
  have hbx := box_two9 w #[.int .u8 bs, .int .u8 dr, .slice A n k] #[.slice PA np kp, .slice CA nc kc, .int .u8 l, .int .u8 r, .int .u8 u0, .int .u8 u1] (t1 := 24) (t2 := 69)
  have V0A : Hid (Blk ((w.alloc (.cells #[.int .u8 bs, .int .u8 dr, .slice A n k] 24)).alloc (.cells #[.slice PA np kp, .slice CA nc kc, .int .u8 l, .int .u8 r, .int .u8 u0, .int .u8 u1] 69)) g 24 #[.int .u8 bs, .int .u8 dr, .slice A n k]) := by
    unfold Hid; rw [← hg]; exact hbx.1
  have V0S : Hid (Blk ((w.alloc (.cells #[.int .u8 bs, .int .u8 dr, .slice A n k] 24)).alloc (.cells #[.slice PA np kp, .slice CA nc kc, .int .u8 l, .int .u8 r, .int .u8 u0, .int .u8 u1] 69)) (g + 1) 69 #[.slice PA np kp, .slice CA nc kc, .int .u8 l, .int .u8 r, .int .u8 u0, .int .u8 u1]) := by
    unfold Hid; rw [← hg]; exact hbx.2.1
  have V0B : Hid (Below w.heap.size w ((w.alloc (.cells #[.int .u8 bs, .int .u8 dr, .slice A n k] 24)).alloc (.cells #[.slice PA np kp, .slice CA nc kc, .int .u8 l, .int .u8 r, .int .u8 u0, .int .u8 u1] 69))) := hbx.2.2
  clear hbx
  have HW := Lib.hid hW
  have HX := Lib.hid hX
  have HXS := Lib.hid hxs
  have HV := Lib.hid hV
  clear hW hX hxs hV
  go_enter Try.func9, Try.ntmps9
  go_wp2_with fail
  generalize ((w.alloc (.cells #[.int .u8 bs, .int .u8 dr, .slice A n k] 24)).alloc (.cells #[.slice PA np kp, .slice CA nc kc, .int .u8 l, .int .u8 r, .int .u8 u0, .int .u8 u1] 69)) = V0 at *
  refine (sanity3_any _).mono ?_
  rintro e w1 ⟨rfl, hb1⟩
  have A1 := Lib.hid (V0A.out.keep hb1 (Blk.lt V0A.out))
  have S1 := Lib.hid (V0S.out.keep hb1 (Blk.lt V0S.out))
  have B1 : Hid (Below w.heap.size w w1) := below_next V0B.out hb1
  clear hb1 V0A V0S V0B
  have a0 := A1.out.cell 0
  have a1 := A1.out.cell 1
  have a2 := A1.out.cell 2
  simp only [List.getElem?_toArray, List.getElem?_cons_zero, List.getElem?_cons_succ] at a0 a1 a2
  go_wp2_with fail
  have HW1 : RawMs w1 w1.heap.size A n := HW.out.up B1.out
  refine (made_any w1 A n k bs dr HW1 hbs hdr).mono ?_
  rintro e w2 ⟨m, a, rs, v, rfl, hM, hG, hl10, hm12, ha, hb2⟩
  obtain ⟨A2, k2, rfl, hR2, _⟩ := (Made.b hM).rules
  have HMB := Lib.hid (Made.b hM)
  have S2 := Lib.hid (S1.out.keep hb2 (Blk.lt S1.out))
  have HG := Lib.hid hG
  have R2 := Lib.hid hR2
  have B2 : Hid (Below w.heap.size w w2) := below_next B1.out hb2
  have HB12 : Hid (Below w1.heap.size w1 w2) := hb2
  clear hb2 hM hG hR2 a0 a1 a2 HW1 A1 S1 HW
  obtain ⟨q, hq⟩ : ∃ q, w2.heap.size = q := ⟨_, rfl⟩
  go_upto_region 3 with fail
  have BA : Hid (Below w2.heap.size w2 (w2.alloc (.cells #[.int .i64 m, .int .u8 a, .slice A2 rs.length k2] 31))) := below_box _ _ _
  have T3 : Hid (Blk (w2.alloc (.cells #[.int .i64 m, .int .u8 a, .slice A2 rs.length k2] 31)) q 31 #[.int .i64 m, .int .u8 a, .slice A2 rs.length k2]) := by
    unfold Hid; rw [← hq]; exact Blk.new w2 _ _
  have R3 := Lib.hid (R2.out.up BA.out)
  have HM3 := Lib.hid (HMB.out.keep BA.out)
  have HB13 : Hid (Below w1.heap.size w1 (w2.alloc (.cells #[.int .i64 m, .int .u8 a, .slice A2 rs.length k2] 31))) := below_next HB12.out BA.out
  have S3 := Lib.hid (S2.out.keep BA.out (Blk.lt S2.out))
  have B3 : Hid (Below w.heap.size w (w2.alloc (.cells #[.int .i64 m, .int .u8 a, .slice A2 rs.length k2] 31))) := below_next B2.out BA.out
  generalize w2.alloc (.cells #[.int .i64 m, .int .u8 a, .slice A2 rs.length k2] 31) = w3 at *
  clear hq BA R2 B2 HMB S2
  have t0 := T3.out.cell 0
  have t1 := T3.out.cell 1
  have t2 := T3.out.cell 2
  simp only [List.getElem?_toArray, List.getElem?_cons_zero, List.getElem?_cons_succ] at t0 t1 t2
  have hm8 : 1 ≤ m ∧ m ≤ 8 := by omega
  have hmax : rs.length ≤ 64 := by omega
  have hrs : 1 ≤ rs.length := by
    have := HG.out.1
    unfold numsB at this
    simp only [Bool.and_eq_true, decide_eq_true_eq] at this
    omega
  have HFT := Lib.hid R3.out.fit
  obtain ⟨lo, hlo⟩ : ∃ lo, w1.heap.size = lo := ⟨_, rfl⟩
  rw [hlo] at HM3
  have HLO : Hid (w1.heap.size = lo) := hlo
  clear hlo
  go_wp2_with fail
  refine (walk_any m a A2 rs.length k2 rs w3 rfl R3.out HG.out hmax hm8 ha XA xs.length xk xs rfl (HX.out.up B3.out) HXS.out).mono ?_
  rintro e w4 ⟨hb4, QA, qk, ks, hown, hend⟩
  have T4 : Hid (TB q m a A2 rs.length k2 rs w4) := (TB.mk T3.out R3.out).next hb4
  have HM4 := Lib.hid (HM3.out.keep hb4)
  have S4 := Lib.hid (S3.out.keep hb4 (Blk.lt S3.out))
  have B4 : Hid (Below w.heap.size w w4) := below_next B3.out hb4
  have HSK := Lib.hid (own_seqN hown)
  have HLO4 : Hid (lo ≤ w4.heap.size) := by have h1 := HLO.out; have h2 := HB13.out.size; have h3 := hb4.size; unfold Hid; omega
  have HV4 := Lib.hid (HV.out.up B4.out)
  clear hb4 hown t0 t1 t2 T3 R3 B3 HX HXS HM3 S3 HV HLO HB13
  obtain ⟨pb, rfl, hkl⟩ : ∃ pb : Bool, e = .returned (.tuple #[.slice QA ks.length qk, .bool pb]) ∧ ks.length ≤ 4000 := by
    rcases hend with ⟨h1, h2, _⟩ | ⟨h1, _, h3⟩
    · subst h2; exact ⟨false, h1, Nat.zero_le _⟩
    · exact ⟨true, h1, h3⟩
  clear hend
  have t0 := T4.out.t.cell 0
  have t1 := T4.out.t.cell 1
  have t2 := T4.out.t.cell 2
  have s0 := S4.out.cell 0
  have s1 := S4.out.cell 1
  have s2 := S4.out.cell 2
  have s3 := S4.out.cell 3
  have s4 := S4.out.cell 4
  have s5 := S4.out.cell 5
  simp only [List.getElem?_toArray, List.getElem?_cons_zero, List.getElem?_cons_succ] at t0 t1 t2 s0 s1 s2 s3 s4 s5
  have hql : q < w4.heap.size := Blk.lt T4.out.t
  have hgl : g + 1 < w4.heap.size := Blk.lt S4.out
  dsimp only
  have hm2 : m = 1 ∨ m = 2 := by omega
  have hlo4 : lo ≤ w4.heap.size := HLO4.out
  go_upto_region 4 with fail
  refine wp_region_mid2 18 0 (by kernel_rfl) (fun y => (Value.agg #[Value.int IntKind.u8 bs, Value.int IntKind.u8 dr, Value.slice A n k]) :: (Value.slice XA xs.length xk) :: (Value.agg #[Value.slice PA np kp, Value.slice CA nc kc, Value.int IntKind.u8 l, Value.int IntKind.u8 r, Value.int IntKind.u8 u0, Value.int IntKind.u8 u1]) :: (Value.pointer (some ⟨g, 0, none⟩)) :: undef :: (Value.pointer (some ⟨g + 1, 0, none⟩)) :: (Value.bool false) :: (Value.bool true) :: (Value.pointer (some ⟨q, 0, none⟩)) :: (Value.slice QA ks.length qk) :: (Value.bool pb) :: y 17 :: undef :: (Value.bool true) :: (Value.agg #[Value.int IntKind.u8 bs, Value.int IntKind.u8 dr, Value.slice A n k]) :: (Value.agg #[Value.int IntKind.i64 m, Value.int IntKind.u8 a, Value.slice A2 rs.length k2]) :: (Value.tuple #[Value.slice QA ks.length qk, Value.bool pb]) :: (Value.agg #[Value.int IntKind.i64 m, Value.int IntKind.u8 a, Value.slice A2 rs.length k2]) :: (Value.slice XA xs.length xk) :: (Value.tuple #[Value.slice QA ks.length qk, Value.bool pb]) :: (Value.slice QA ks.length qk) :: (Value.bool pb) :: y 0 :: y 1 :: y 2 :: y 3 :: y 4 :: y 5 :: y 6 :: y 7 :: y 8 :: y 9 :: y 10 :: y 11 :: y 12 :: y 13 :: y 14 :: y 15 :: y 16 :: undef :: undef :: undef :: undef :: undef :: undef :: undef :: undef :: undef :: undef :: undef :: undef :: undef :: undef :: undef :: undef :: undef :: undef :: undef :: undef :: undef :: undef :: undef :: undef :: undef :: undef :: undef :: undef :: undef :: []) (SG w4 lo rs m (shm m - 1)) (phiGw w4 [some (.pointer (some ⟨q, 0, none⟩)), some (.int .i64 m), some (.pointer (some ⟨q, 0, none⟩)), some (.int .i64 m), some (.int .u8 (shm m)), some (.int .u8 (shm m - 1)), none, some (.pointer (some ⟨q, 2, none⟩)), some (.slice A2 rs.length k2), none, some (.agg #[.slice PA np kp, .slice CA nc kc, .int .u8 l, .int .u8 r, .int .u8 u0, .int .u8 u1]), some (.pointer (some ⟨q, 0, none⟩)), some (.int .i64 m), none, none, none, none]) (fun i => match i with | 0 => undef | 1 => undef | 2 => undef | 3 => undef | 4 => undef | 5 => undef | 6 => undef | 7 => undef | 8 => undef | 9 => undef | 10 => undef | 11 => undef | 12 => undef | 13 => undef | 14 => undef | 15 => undef | 16 => undef | 17 => undef | _ => undef)
    (by kernel_rfl) (by kernel_rfl) (by kernel_rfl) (by kernel_rfl) ?_ [0, 1, 2, 3, 4, 5, 6, 7, 8, 9, 10, 11, 12, 13, 14, 15, 16, 17] (by kernel_rfl) ?_ ?_
  · exact SG.start
  · refine allCons ?_ (allCons ?_ (allCons ?_ (allCons ?_ (allCons ?_ (allCons ?_ (allCons ?_ (allCons ?_ (allCons ?_ (allCons ?_ (allCons ?_ (allCons ?_ (allCons ?_ (allCons ?_ (allCons ?_ (allCons ?_ (allCons ?_ (allCons ?_ (allNil))))))))))))))))))
    all_goals intro bl y w10 K3 hbi hS hd hK3
    · refine wpOp_step rfl (fun K2 hK2 => ?_)
      go_simp
      exact hK2 _ _ (hK3 _ _ (hS.same (by decide) (Below.refl _ _)) rfl (fun _ _ h => h))
    · have e0 : y 0 = _ := (hd 0 rfl).2
      obtain ⟨y, rfl⟩ := upd_at (y := y) (i := 0) e0
      dsimp [upd]
      have q0 := (hS.blw.cell (p := ⟨q, 0, none⟩) hql).trans t0
      refine wpOp_step rfl (fun K2 hK2 => ?_)
      go_simp
      exact hK2 _ _ (hK3 _ _ (hS.same (by decide) (Below.refl _ _)) rfl (fun _ _ h => h))
    · refine wpOp_step rfl (fun K2 hK2 => ?_)
      go_simp
      exact hK2 _ _ (hK3 _ _ (hS.same (by decide) (Below.refl _ _)) rfl (fun _ _ h => h))
    · have e2 : y 2 = _ := (hd 2 rfl).2
      obtain ⟨y, rfl⟩ := upd_at (y := y) (i := 2) e2
      dsimp [upd]
      have q0 := (hS.blw.cell (p := ⟨q, 0, none⟩) hql).trans t0
      refine wpOp_step rfl (fun K2 hK2 => ?_)
      go_simp
      exact hK2 _ _ (hK3 _ _ (hS.same (by decide) (Below.refl _ _)) rfl (fun _ _ h => h))
    · have e3 : y 3 = _ := (hd 3 rfl).2
      obtain ⟨y, rfl⟩ := upd_at (y := y) (i := 3) e3
      dsimp [upd]
      rcases hm2 with e | e
      all_goals
        subst e
        refine wpOp_step rfl (fun K2 hK2 => ?_)
        go_simp
        exact hK2 _ _ (hK3 _ _ (hS.same (by decide) (Below.refl _ _)) rfl (fun _ _ h => h))
    · have e4 : y 4 = _ := (hd 4 rfl).2
      obtain ⟨y, rfl⟩ := upd_at (y := y) (i := 4) e4
      dsimp [upd]
      rcases hm2 with e | e
      all_goals
        subst e
        refine wpOp_step rfl (fun K2 hK2 => ?_)
        go_simp
        exact hK2 _ _ (hK3 _ _ (hS.same (by decide) (Below.refl _ _)) rfl (fun _ _ h => h))
    · refine wpOp_step rfl (fun K2 hK2 => ?_)
      go_simp
      exact hK2 _ _ (hK3 _ _ (hS.at6 ⟨_, _, [], rfl, World.ownsRow_lit w10 #[] 0 hS.blw.size (by decide) rfl, RulesW.nil⟩ (below_box _ _ _)) trivial (fun _ _ h => phiGw_below (below_box _ _ _) h))
    · refine wpOp_step rfl (fun K2 hK2 => ?_)
      go_simp
      exact hK2 _ _ (hK3 _ _ (hS.same (by decide) (Below.refl _ _)) rfl (fun _ _ h => h))
    · have e7 : y 7 = _ := (hd 7 rfl).2
      obtain ⟨y, rfl⟩ := upd_at (y := y) (i := 7) e7
      dsimp [upd]
      have q2 := (hS.blw.cell (p := ⟨q, 2, none⟩) hql).trans t2
      refine wpOp_step rfl (fun K2 hK2 => ?_)
      go_simp
      exact hK2 _ _ (hK3 _ _ (hS.same (by decide) (Below.refl _ _)) rfl (fun _ _ h => h))
    · have e8 : y 8 = _ := (hd 8 rfl).2
      refine wpOp_append_rules rfl rfl (.tmp 28) (.tmp 30) rfl w4.heap.size lo lo (y 6) (.slice A2 rs.length k2) [] rs rfl (hS.c6 (hd 6 rfl).1 hbi) e8 (HM4.out.keep hS.blw) (by show 0 + rs.length ≤ 1000; omega) (by omega) hS.blw.size ?_
      intro v' w' h1 ho
      exact hK3 _ _ (hS.at9 hbi h1 (ho.below hS.blw.size)) trivial (fun _ _ h => phiGw_onto ho h)
    · have z0 := (hS.blw.cell (p := ⟨g + 1, 0, none⟩) hgl).trans s0
      have z1 := (hS.blw.cell (p := ⟨g + 1, 1, none⟩) hgl).trans s1
      have z2 := (hS.blw.cell (p := ⟨g + 1, 2, none⟩) hgl).trans s2
      have z3 := (hS.blw.cell (p := ⟨g + 1, 3, none⟩) hgl).trans s3
      have z4 := (hS.blw.cell (p := ⟨g + 1, 4, none⟩) hgl).trans s4
      have z5 := (hS.blw.cell (p := ⟨g + 1, 5, none⟩) hgl).trans s5
      refine wpOp_step rfl (fun K2 hK2 => ?_)
      go_simp
      exact hK2 _ _ (hK3 _ _ (hS.same (by decide) (Below.refl _ _)) rfl (fun _ _ h => h))
    · refine wpOp_step rfl (fun K2 hK2 => ?_)
      go_simp
      exact hK2 _ _ (hK3 _ _ (hS.same (by decide) (Below.refl _ _)) rfl (fun _ _ h => h))
    · have e11 : y 11 = _ := (hd 11 rfl).2
      obtain ⟨y, rfl⟩ := upd_at (y := y) (i := 11) e11
      dsimp [upd]
      have q0 := (hS.blw.cell (p := ⟨q, 0, none⟩) hql).trans t0
      refine wpOp_step rfl (fun K2 hK2 => ?_)
      go_simp
      exact hK2 _ _ (hK3 _ _ (hS.same (by decide) (Below.refl _ _)) rfl (fun _ _ h => h))
    · have h9 := (hd 9 rfl).1
      have e10 : y 10 = _ := (hd 10 rfl).2
      have e12 : y 12 = _ := (hd 12 rfl).2
      obtain ⟨y, rfl⟩ := upd_at (y := y) (i := 10) e10
      obtain ⟨y, rfl⟩ := upd_at (y := y) (i := 12) e12
      dsimp [upd]
      refine wpOp_step rfl (fun K2 hK2 => ?_)
      go_simp
      obtain ⟨⟨v1, v2⟩, ⟨v3, v4⟩, ⟨v5, v6, v7, v8⟩, v9, v10⟩ := HV4.out.up hS.blw
      refine (rule_any w10 PA CA np nc kp kc ps cs l r u0 u1 m v1 v2 v3 v4 v5 v6 v7 v8 hm12 v9 v10).mono ?_
      rintro e' w' ⟨v, x, rfl, hr, hf, _, _, hb⟩
      exact hK2 _ _ (hK3 _ _ (hS.at13 h9 hbi (hr.less (Nat.le_trans hlo4 hS.blw.size)) hf hb) trivial (fun _ _ h => phiGw_below hb h))
    · have h13 := (hd 13 rfl).1
      have n15 : bl 15 = false := by cases e : bl 15 with | false => rfl | true => rw [hS.k15 e] at hbi; cases hbi
      obtain ⟨x, ⟨A', k', e13, hs⟩, hf⟩ := hS.c13 h13 n15
      obtain ⟨y, rfl⟩ := upd_at (y := y) (i := 13) e13
      dsimp [upd]
      refine wpOp_step rfl (fun K2 hK2 => ?_)
      go_simp
      exact hK2 _ _ (hK3 _ _ (hS.at14 h13 hbi (NewR.lit (RulesW.nil.snoc hs hf)) hf (below_box _ _ _)) trivial (fun _ _ h => phiGw_below (below_box _ _ _) h))
    · have h14 := (hd 14 rfl).1
      have h9 := (hd 9 rfl).1
      obtain ⟨x, hN, hf⟩ := hS.c14 h14 hbi
      refine wpOp_append_made rfl rfl (.tmp 31) (.tmp 36) rfl w4.heap.size lo (y 9) (y 14) rs [x] rfl (hS.c9 h9 hbi) rfl hN (by show rs.length + 1 ≤ 1000; omega) (by show 0 < 1; omega) hS.blw.size ?_
      intro v' w' h1 ho
      exact hK3 _ _ (hS.at15 h14 hbi h1 hf (ho.below hS.blw.size)) trivial (fun _ _ h => phiGw_onto ho h)
    · have h15 := (hd 15 rfl).1
      obtain ⟨x, hM, hf⟩ := hS.c15 h15
      obtain ⟨A', k', e15, _⟩ := hM.rules
      rw [show (rs ++ [x]).length = rs.length + 1 from by simp] at e15
      have e1 : y 1 = _ := (hd 1 rfl).2
      have e5 : y 5 = _ := (hd 5 rfl).2
      obtain ⟨y, rfl⟩ := upd_at (y := y) (i := 1) e1
      obtain ⟨y, rfl⟩ := upd_at (y := y) (i := 5) e5
      obtain ⟨y, rfl⟩ := upd_at (y := y) (i := 15) e15
      dsimp [upd]
      refine wpOp_step rfl (fun K2 hK2 => ?_)
      go_simp
      exact hK2 _ _ (hK3 _ _ (hS.at16 (v := .agg #[.int .i64 m, .int .u8 (shm m - 1), .slice A' (rs.length + 1) k']) h15 (by simp [upd])) trivial (fun _ _ h => h))
    · refine wpOp_step rfl (fun K2 hK2 => ?_)
      go_simp
      exact hK2 _ _ (hK3 _ _ (hS.same (by decide) (below_box _ _ _)) ⟨_, rfl, hS.blw.size, Blk.new _ _ _⟩ (fun _ _ h => phiGw_below (below_box _ _ _) h))
  · intro bl y w10 f hall hS hd
    obtain ⟨x, hMx, hfx⟩ := hS.c15 (hall 15 (by decide))
    obtain ⟨A3, k3, e15, _, _⟩ := hMx.rules
    rw [show (rs ++ [x]).length = rs.length + 1 from by simp] at e15
    have e16 := hS.c16 (hall 16 (by decide))
    rw [e15] at e16 hMx
    obtain ⟨g9, e17, hg9, hB9⟩ := hd 17 (by decide)
    have hbl := hS.blw
    clear hd hall hS e15
    obtain ⟨y, rfl⟩ := upd_at (y := y) (i := 16) e16
    obtain ⟨y, rfl⟩ := upd_at (y := y) (i := 17) e17
    dsimp [upd]
    have d0 := hB9.cell 0
    have d1 := hB9.cell 1
    have d2 := hB9.cell 2
    have f0 := hB9.free 0
    have f1 := hB9.free 1
    have f2 := hB9.free 2
    simp only [List.getElem?_toArray, List.getElem?_cons_zero, List.getElem?_cons_succ] at d0 d1 d2
    refine wpAny_one (i := 18) (by kernel_rfl) ?_
    refine wpOp_step rfl (fun K2 hK2 => ?_)
    go_simp
    refine hK2 _ _ ?_
    clear hK2 K2 e16 e17 d0 d1 d2 f0 f1 f2
    refine wpAny_done (by kernel_rfl) ?_ _
    obtain ⟨yo, rfl⟩ : ∃ yo : Nat → Value, yo = y := ⟨_, rfl⟩
    have hM1 := hMx.set hB9 (by decide) (i := 0) (.int .i64 m)
    have hB1 := hB9.set 0 (.int .i64 m)
    have hM2 := hM1.set hB1 (by decide) (i := 1) (.int .u8 (shm m - 1))
    have hB2 := hB1.set 1 (.int .u8 (shm m - 1))
    have hM3 := hM2.set hB2 (by decide) (i := 2) (.slice A3 (rs.length + 1) k3)
    have hB3 := hB2.set 2 (.slice A3 (rs.length + 1) k3)
    obtain ⟨A3', k3', e3, hR5, _⟩ := hM3.rules
    obtain rfl : A3 = A3' := by injection e3
    have hb5 : Below w4.heap.size w4 (((w10.setCell ⟨g9, 0, none⟩ (.int .i64 m)).setCell ⟨g9, 1, none⟩ (.int .u8 (shm m - 1))).setCell ⟨g9, 2, none⟩ (.slice A3 (rs.length + 1) k3)) := ((hbl.setCell hg9 _).setCell hg9 _).setCell hg9 _
    have HT5 := Lib.hid (T4.out.next hb5)
    have HS5 := Lib.hid (HSK.out.up hb5)
    have B5 : Hid (Below w.heap.size w (((w10.setCell ⟨g9, 0, none⟩ (.int .i64 m)).setCell ⟨g9, 1, none⟩ (.int .u8 (shm m - 1))).setCell ⟨g9, 2, none⟩ (.slice A3 (rs.length + 1) k3))) := below_next B4.out hb5
    have HR5 := Lib.hid hR5
    have HB5 : Hid (Blk (((w10.setCell ⟨g9, 0, none⟩ (.int .i64 m)).setCell ⟨g9, 1, none⟩ (.int .u8 (shm m - 1))).setCell ⟨g9, 2, none⟩ (.slice A3 (rs.length + 1) k3)) g9 31 #[.int .i64 m, .int .u8 (shm m - 1), .slice A3 (rs.length + 1) k3]) := hB3
    have HFX := Lib.hid hfx
    clear hMx hM1 hM2 hM3 hB9 hB1 hB2 hB3 hR5 hb5 hbl hg9 e3 T4 HSK B4 HM4 S4 HV4 HLO4 t0 t1 t2 s0 s1 s2 s3 s4 s5 hql hgl hlo4 hfx
    generalize ((w10.setCell ⟨g9, 0, none⟩ (.int .i64 m)).setCell ⟨g9, 1, none⟩ (.int .u8 (shm m - 1))).setCell ⟨g9, 2, none⟩ (.slice A3 (rs.length + 1) k3) = w5 at *
    have t0 := HT5.out.t.cell 0
    have t1 := HT5.out.t.cell 1
    have t2 := HT5.out.t.cell 2
    simp only [List.getElem?_toArray, List.getElem?_cons_zero, List.getElem?_cons_succ] at t0 t1 t2
    go_wp2_with fail
    refine (run_any m a A2 rs.length k2 rs QA ks.length qk ks w5 rfl HT5.out.r HG.out hmax hm8 ha rfl HS5.out (by omega)).mono ?_
    rintro e w6 ⟨CX, cx, rfl, hcs, hb6⟩
    have hn' : (rs ++ [x]).length = rs.length + 1 := by simp
    have HT6 := Lib.hid (HT5.out.next hb6)
    have HU6 : Hid (TB g9 m (shm m - 1) A3 (rs.length + 1) k3 (rs ++ [x]) w6) := (TB.mk HB5.out HR5.out).next hb6
    have HS6 := Lib.hid (HS5.out.up hb6)
    have HC6 := Lib.hid hcs
    have B6 : Hid (Below w.heap.size w w6) := below_next B5.out hb6
    have HFX2 := Lib.hid HR5.out.fit
    clear hb6 hcs HT5 HS5 B5 HR5 HB5 t0 t1 t2
    dsimp only
    have hsb : 0 ≤ shm m - 1 ∧ shm m - 1 < 256 := by unfold shm; split <;> omega
    go_upto_region 6 with fail
    have BX := below_box w6 #[.string (strOf (runT rs ks).p), .slice CX (runT rs ks).c.length cx, .int .i64 ((runT rs ks).n : Nat), .int .i64 (runT rs ks).st.mode, .int .i64 (runT rs ks).st.last, .int .u8 (runT rs ks).st.need, .bool (runOk a rs ks)] 41
    have HA7 : Hid (Blk (w6.alloc (.cells #[.string (strOf (runT rs ks).p), .slice CX (runT rs ks).c.length cx, .int .i64 ((runT rs ks).n : Nat), .int .i64 (runT rs ks).st.mode, .int .i64 (runT rs ks).st.last, .int .u8 (runT rs ks).st.need, .bool (runOk a rs ks)] 41)) w6.heap.size 41 #[.string (strOf (runT rs ks).p), .slice CX (runT rs ks).c.length cx, .int .i64 ((runT rs ks).n : Nat), .int .i64 (runT rs ks).st.mode, .int .i64 (runT rs ks).st.last, .int .u8 (runT rs ks).st.need, .bool (runOk a rs ks)]) := Blk.new _ _ _
    have HT7 := Lib.hid (HT6.out.next BX)
    have HU7 := Lib.hid (HU6.out.next BX)
    have HS7 := Lib.hid (HS6.out.up BX)
    have HC7 := Lib.hid (HC6.out.up BX)
    have B7 : Hid (Below w.heap.size w (w6.alloc (.cells #[.string (strOf (runT rs ks).p), .slice CX (runT rs ks).c.length cx, .int .i64 ((runT rs ks).n : Nat), .int .i64 (runT rs ks).st.mode, .int .i64 (runT rs ks).st.last, .int .u8 (runT rs ks).st.need, .bool (runOk a rs ks)] 41))) := below_next B6.out BX
    clear BX HT6 HU6 HS6 HC6 B6
    generalize w6.alloc (.cells #[.string (strOf (runT rs ks).p), .slice CX (runT rs ks).c.length cx, .int .i64 ((runT rs ks).n : Nat), .int .i64 (runT rs ks).st.mode, .int .i64 (runT rs ks).st.last, .int .u8 (runT rs ks).st.need, .bool (runOk a rs ks)] 41) = w7 at *
    obtain ⟨ga, hga⟩ : ∃ ga, w6.heap.size = ga := ⟨_, rfl⟩
    rw [hga] at HA7
    simp only [hga]
    clear hga
    have v0 := HU7.out.t.cell 0
    have v1 := HU7.out.t.cell 1
    have v2 := HU7.out.t.cell 2
    simp only [List.getElem?_toArray, List.getElem?_cons_zero, List.getElem?_cons_succ] at v0 v1 v2
    have HN' := Lib.hid hn'
    clear hn'
    go_wp2_with fail
    refine (rValid_any A3 (rs.length + 1) k3 m (shm m - 1) (rs ++ [x]) w7 HN'.out HU7.out.r (by omega) hsb).mono ?_
    rintro e w8 ⟨rfl, hb8⟩
    have HT := Lib.hid (HT7.out.next hb8)
    have HU := Lib.hid (HU7.out.next hb8)
    have HS8 := Lib.hid (HS7.out.up hb8)
    have HC8 := Lib.hid (HC7.out.up hb8)
    have HA8 := Lib.hid (HA7.out.keep hb8 (Blk.lt HA7.out))
    have B8 : Hid (Below w.heap.size w w8) := below_next B7.out hb8
    clear hb8 HT7 HU7 HS7 HC7 HA7 B7 v0 v1 v2
    cases hv : validB m (shm m - 1) (rs ++ [x]) with
    | false =>
      go_wp2_with fail
      go_ret
      first | exact ⟨rfl, B8.out⟩ | exact ⟨rfl, by rw [← hg]; exact B8.out⟩
    | true =>
      have HGX := Lib.hid (valid_iff.1 hv)
      clear hv
      cases hok : runOk a rs ks with
      | false =>
        rw [hok] at HA8
        have a6 := HA8.out.cell 6
        simp only [List.getElem?_toArray, List.getElem?_cons_zero, List.getElem?_cons_succ] at a6
        clear hok
        go_wp2_with fail
        go_ret
        first | exact ⟨rfl, B8.out⟩ | exact ⟨rfl, by rw [← hg]; exact B8.out⟩
      | true =>
        rw [hok] at HA8
        have HGR : Hid (runT (rs ++ [x]) ks = runT rs ks) := run_grow hok
        have HGO : Hid (runOk (shm m - 1) (rs ++ [x]) ks = true) := ok_grow hok (acc_more HG.out ha hm12)
        have hcl := (ok_sizes HG.out hok).2
        have hge := states_grow HG.out HFT.out hm8 HGX.out HFX2.out hm8
        have hsl := (theG_ok HGX.out HFX2.out hm8.1).le ⟨by omega, hm8.2⟩
        have a0 := HA8.out.cell 0
        have a1 := HA8.out.cell 1
        have a2 := HA8.out.cell 2
        have a3 := HA8.out.cell 3
        have a4 := HA8.out.cell 4
        have a5 := HA8.out.cell 5
        have a6 := HA8.out.cell 6
        have v0 := HU.out.t.cell 0
        have v1 := HU.out.t.cell 1
        have v2 := HU.out.t.cell 2
        have t0 := HT.out.t.cell 0
        have t1 := HT.out.t.cell 1
        have t2 := HT.out.t.cell 2
        simp only [List.getElem?_toArray, List.getElem?_cons_zero, List.getElem?_cons_succ] at a0 a1 a2 a3 a4 a5 a6 v0 v1 v2 t0 t1 t2
        have h9l : g9 < w8.heap.size := Blk.lt HU.out.t
        have hql : q < w8.heap.size := Blk.lt HT.out.t
        have hal : ga < w8.heap.size := Blk.lt HA8.out
        have hn' := HN'.out
        clear hok hn'
        go_upto_region 8 with fail
        refine wp_region_head 17 0 (by kernel_rfl) (fun y => (Value.agg #[Value.int IntKind.u8 bs, Value.int IntKind.u8 dr, Value.slice A n k]) :: (Value.slice XA xs.length xk) :: (Value.agg #[Value.slice PA np kp, Value.slice CA nc kc, Value.int IntKind.u8 l, Value.int IntKind.u8 r, Value.int IntKind.u8 u0, Value.int IntKind.u8 u1]) :: (Value.pointer (some ⟨g, 0, none⟩)) :: undef :: (Value.pointer (some ⟨g + 1, 0, none⟩)) :: (Value.bool false) :: (Value.bool true) :: (Value.pointer (some ⟨q, 0, none⟩)) :: (Value.slice QA ks.length qk) :: (Value.bool pb) :: (Value.pointer (some ⟨g9, 0, none⟩)) :: (Value.pointer (some ⟨ga, 0, none⟩)) :: (Value.bool true) :: (Value.agg #[Value.int IntKind.u8 bs, Value.int IntKind.u8 dr, Value.slice A n k]) :: (Value.agg #[Value.int IntKind.i64 m, Value.int IntKind.u8 a, Value.slice A2 rs.length k2]) :: (Value.tuple #[Value.slice QA ks.length qk, Value.bool pb]) :: (Value.agg #[Value.int IntKind.i64 m, Value.int IntKind.u8 a, Value.slice A2 rs.length k2]) :: (Value.slice XA xs.length xk) :: (Value.tuple #[Value.slice QA ks.length qk, Value.bool pb]) :: (Value.slice QA ks.length qk) :: (Value.bool pb) :: yo 0 :: yo 1 :: yo 2 :: yo 3 :: yo 4 :: yo 5 :: yo 6 :: yo 7 :: yo 8 :: yo 9 :: yo 10 :: yo 11 :: yo 12 :: yo 13 :: yo 14 :: yo 15 :: (Value.agg #[Value.int IntKind.i64 m, Value.int IntKind.u8 (shm m - 1), Value.slice A3 (rs.length + 1) k3]) :: (Value.agg #[Value.int IntKind.i64 m, Value.int IntKind.u8 a, Value.slice A2 rs.length k2]) :: (Value.slice QA ks.length qk) :: (Value.agg #[Value.string (strOf (runT rs ks).p), Value.slice CX (runT rs ks).c.length cx, Value.int IntKind.i64 ↑(runT rs ks).n, Value.int IntKind.i64 (runT rs ks).st.mode, Value.int IntKind.i64 (runT rs ks).st.last, Value.int IntKind.u8 (runT rs ks).st.need, Value.bool true]) :: (Value.agg #[Value.int IntKind.i64 m, Value.int IntKind.u8 (shm m - 1), Value.slice A3 (rs.length + 1) k3]) :: (Value.bool true) :: (Value.bool false) :: (Value.bool false) :: (Value.pointer (some ⟨ga, 6, none⟩)) :: (Value.bool true) :: (Value.bool false) :: (Value.bool false) :: undef :: y 0 :: y 1 :: y 2 :: y 3 :: y 4 :: y 5 :: y 6 :: y 7 :: y 8 :: y 9 :: y 10 :: y 11 :: y 12 :: y 13 :: y 14 :: y 15 :: y 16 :: [])
          (fun _ w' => Below w8.heap.size w8 w') (phiP [pv (.agg #[.int .i64 m, .int .u8 (shm m - 1), .slice A3 (rs.length + 1) k3]), pv (.slice QA ks.length qk), pq (fun (z : Option Addr × Nat) => runX rs ks z) (fun (z : Option Addr × Nat) w => Seq w w.heap.size z.1 (runT rs ks).c), pv (.agg #[.string (strOf (runT rs ks).p), .slice CX (runT rs ks).c.length cx, .int .i64 (((runT rs ks).n : Nat) : Int), .int .i64 (runT rs ks).st.mode, .int .i64 (runT rs ks).st.last, .int .u8 (runT rs ks).st.need, .bool true]), pv (.bool true), pv (.bool true), pv (.agg #[.int .i64 m, .int .u8 (shm m - 1), .slice A3 (rs.length + 1) k3]), pe (fun z : Option Addr × Nat => .slice z.1 (theG (rs ++ [x])).1.length z.2), pv (.int .i64 (theG (rs ++ [x])).1.length), pv (.agg #[.int .i64 m, .int .u8 a, .slice A2 rs.length k2]), pe (fun z : Option Addr × Nat => .slice z.1 (theG rs).1.length z.2), pv (.int .i64 (theG rs).1.length), pv (.bool true), pv (.bool true), pv (.bool true), pv (.bool true), pv (.bool true)]) (fun i => match i with | 0 => undef | 1 => undef | 2 => undef | 3 => undef | 4 => undef | 5 => undef | 6 => undef | 7 => undef | 8 => undef | 9 => undef | 10 => undef | 11 => undef | 12 => undef | 13 => undef | 14 => undef | 15 => undef | 16 => undef | _ => undef)
          (by kernel_rfl) (by kernel_rfl) (by kernel_rfl) (by kernel_rfl) (fun i v wa wb h hb => phiP_keep (stay_cons (pv_st) (stay_cons (pv_st) (stay_cons (pq_st (fun z w w' h hb => h.up hb)) (stay_cons (pv_st) (stay_cons (pv_st) (stay_cons (pv_st) (stay_cons (pv_st) (stay_cons (pe_st) (stay_cons (pv_st) (stay_cons (pv_st) (stay_cons (pe_st) (stay_cons (pv_st) (stay_cons (pv_st) (stay_cons (pv_st) (stay_cons (pv_st) (stay_cons (pv_st) (stay_cons (pv_st) stay_nil))))))))))))))))) h hb) (Below.refl _ _).drew [0, 1, 2, 3, 4, 5, 6, 7, 8, 9, 10, 11, 12, 13, 14, 15, 16] (by kernel_rfl) ?_ ?_
        · refine allCons ?_ (allCons ?_ (allCons ?_ (allCons ?_ (allCons ?_ (allCons ?_ (allCons ?_ (allCons ?_ (allCons ?_ (allCons ?_ (allCons ?_ (allCons ?_ (allCons ?_ (allCons ?_ (allCons ?_ (allCons ?_ (allCons ?_ (allNil)))))))))))))))))
          all_goals intro y w10 K hS hd hK
          · have q0 := (hS.cell (p := ⟨g9, 0, none⟩) h9l).trans v0
            have q1 := (hS.cell (p := ⟨g9, 1, none⟩) h9l).trans v1
            have q2 := (hS.cell (p := ⟨g9, 2, none⟩) h9l).trans v2
            refine wpOp_step rfl (fun K2 hK2 => ?_)
            go_simp
            exact hK2 _ _ (hK _ _ hS rfl (Below.refl _ _))
          · refine wpOp_step rfl (fun K2 hK2 => ?_)
            go_simp
            exact hK2 _ _ (hK _ _ hS rfl (Below.refl _ _))
          · have e0 : y 0 = _ := hd 0 rfl
            have e1 : y 1 = _ := hd 1 rfl
            obtain ⟨y, rfl⟩ := upd_at (y := y) (i := 0) e0
            obtain ⟨y, rfl⟩ := upd_at (y := y) (i := 1) e1
            dsimp [upd]
            refine wpOp_step rfl (fun K2 hK2 => ?_)
            go_simp
            refine (run_any m (shm m - 1) A3 (rs.length + 1) k3 (rs ++ [x]) QA ks.length qk ks w10 HN'.out (HU.out.next hS).r HGX.out (by omega) hm8 hsb rfl (HS8.out.up hS) (by omega)).mono ?_
            rintro e' w' ⟨CA, ck, rfl, hq, hb⟩
            rw [HGR.out] at hq ⊢
            rw [HGO.out]
            exact hK2 _ _ (hK _ _ (below_next hS hb) ⟨(CA, ck), rfl, hq⟩ hb)
          · have q0 := (hS.cell (p := ⟨ga, 0, none⟩) hal).trans a0
            have q1 := (hS.cell (p := ⟨ga, 1, none⟩) hal).trans a1
            have q2 := (hS.cell (p := ⟨ga, 2, none⟩) hal).trans a2
            have q3 := (hS.cell (p := ⟨ga, 3, none⟩) hal).trans a3
            have q4 := (hS.cell (p := ⟨ga, 4, none⟩) hal).trans a4
            have q5 := (hS.cell (p := ⟨ga, 5, none⟩) hal).trans a5
            have q6 := (hS.cell (p := ⟨ga, 6, none⟩) hal).trans a6
            refine wpOp_step rfl (fun K2 hK2 => ?_)
            go_simp
            exact hK2 _ _ (hK _ _ hS rfl (Below.refl _ _))
          · obtain ⟨⟨CA, ck⟩, e2, hqa⟩ := hd 2 rfl
            have e3 : y 3 = _ := hd 3 rfl
            obtain ⟨y, rfl⟩ := upd_at (y := y) (i := 2) e2
            obtain ⟨y, rfl⟩ := upd_at (y := y) (i := 3) e3
            dsimp [upd]
            refine wpOp_step rfl (fun K2 hK2 => ?_)
            go_simp
            refine (same_any (strOf (runT rs ks).p) CA CX (runT rs ks).c.length ck cx (runT rs ks).c _ _ _ _ _ w10 rfl hqa (HC8.out.up hS) (by omega)).mono ?_
            rintro e' w' ⟨rfl, hb⟩
            exact hK2 _ _ (hK _ _ (below_next hS hb) rfl hb)
          · have e4 : y 4 = _ := hd 4 rfl
            obtain ⟨y, rfl⟩ := upd_at (y := y) (i := 4) e4
            dsimp [upd]
            refine wpOp_step rfl (fun K2 hK2 => ?_)
            go_simp
            exact hK2 _ _ (hK _ _ hS rfl (Below.refl _ _))
          · have e5 : y 5 = _ := hd 5 rfl
            obtain ⟨y, rfl⟩ := upd_at (y := y) (i := 5) e5
            dsimp [upd]
            have q0 := (hS.cell (p := ⟨g9, 0, none⟩) h9l).trans v0
            have q1 := (hS.cell (p := ⟨g9, 1, none⟩) h9l).trans v1
            have q2 := (hS.cell (p := ⟨g9, 2, none⟩) h9l).trans v2
            refine wpOp_step rfl (fun K2 hK2 => ?_)
            go_simp
            exact hK2 _ _ (hK _ _ hS rfl (Below.refl _ _))
          · have e5 : y 5 = _ := hd 5 rfl
            have e6 : y 6 = _ := hd 6 rfl
            obtain ⟨y, rfl⟩ := upd_at (y := y) (i := 5) e5
            obtain ⟨y, rfl⟩ := upd_at (y := y) (i := 6) e6
            dsimp [upd]
            refine wpOp_step rfl (fun K2 hK2 => ?_)
            go_simp
            refine (states_any m (shm m - 1) A3 (rs.length + 1) k3 (rs ++ [x]) w10 HN'.out (HU.out.next hS).r HGX.out (by omega) hm8).mono ?_
            rintro e' w' ⟨CA, ck, rfl, _, hb⟩
            exact hK2 _ _ (hK _ _ (below_next hS hb) ⟨(CA, ck), rfl⟩ hb)
          · have e5 : y 5 = _ := hd 5 rfl
            obtain ⟨⟨CA, ck⟩, e7⟩ := hd 7 rfl
            obtain ⟨y, rfl⟩ := upd_at (y := y) (i := 5) e5
            obtain ⟨y, rfl⟩ := upd_at (y := y) (i := 7) e7
            dsimp [upd]
            refine wpOp_step rfl (fun K2 hK2 => ?_)
            go_simp
            exact hK2 _ _ (hK _ _ hS rfl (Below.refl _ _))
          · have e5 : y 5 = _ := hd 5 rfl
            obtain ⟨y, rfl⟩ := upd_at (y := y) (i := 5) e5
            dsimp [upd]
            have q0 := (hS.cell (p := ⟨q, 0, none⟩) hql).trans t0
            have q1 := (hS.cell (p := ⟨q, 1, none⟩) hql).trans t1
            have q2 := (hS.cell (p := ⟨q, 2, none⟩) hql).trans t2
            refine wpOp_step rfl (fun K2 hK2 => ?_)
            go_simp
            exact hK2 _ _ (hK _ _ hS rfl (Below.refl _ _))
          · have e5 : y 5 = _ := hd 5 rfl
            have e9 : y 9 = _ := hd 9 rfl
            obtain ⟨y, rfl⟩ := upd_at (y := y) (i := 5) e5
            obtain ⟨y, rfl⟩ := upd_at (y := y) (i := 9) e9
            dsimp [upd]
            refine wpOp_step rfl (fun K2 hK2 => ?_)
            go_simp
            refine (states_any m a A2 rs.length k2 rs w10 rfl (HT.out.next hS).r HG.out hmax hm8).mono ?_
            rintro e' w' ⟨CA, ck, rfl, _, hb⟩
            exact hK2 _ _ (hK _ _ (below_next hS hb) ⟨(CA, ck), rfl⟩ hb)
          · have e5 : y 5 = _ := hd 5 rfl
            obtain ⟨⟨CA, ck⟩, e10⟩ := hd 10 rfl
            obtain ⟨y, rfl⟩ := upd_at (y := y) (i := 5) e5
            obtain ⟨y, rfl⟩ := upd_at (y := y) (i := 10) e10
            dsimp [upd]
            refine wpOp_step rfl (fun K2 hK2 => ?_)
            go_simp
            exact hK2 _ _ (hK _ _ hS rfl (Below.refl _ _))
          · have e5 : y 5 = _ := hd 5 rfl
            have e8 : y 8 = _ := hd 8 rfl
            have e11 : y 11 = _ := hd 11 rfl
            obtain ⟨y, rfl⟩ := upd_at (y := y) (i := 5) e5
            obtain ⟨y, rfl⟩ := upd_at (y := y) (i := 8) e8
            obtain ⟨y, rfl⟩ := upd_at (y := y) (i := 11) e11
            dsimp [upd]
            refine wpOp_step rfl (fun K2 hK2 => ?_)
            go_simp
            exact hK2 _ _ (hK _ _ hS rfl (Below.refl _ _))
          · have e5 : y 5 = _ := hd 5 rfl
            have e12 : y 12 = _ := hd 12 rfl
            obtain ⟨y, rfl⟩ := upd_at (y := y) (i := 5) e5
            obtain ⟨y, rfl⟩ := upd_at (y := y) (i := 12) e12
            dsimp [upd]
            refine wpOp_step rfl (fun K2 hK2 => ?_)
            go_simp
            exact hK2 _ _ (hK _ _ hS rfl (Below.refl _ _))
          · have e13 : y 13 = _ := hd 13 rfl
            obtain ⟨y, rfl⟩ := upd_at (y := y) (i := 13) e13
            dsimp [upd]
            refine wpOp_step rfl (fun K2 hK2 => ?_)
            go_simp
            exact hK2 _ _ (hK _ _ hS rfl (Below.refl _ _))
          · have e14 : y 14 = _ := hd 14 rfl
            obtain ⟨y, rfl⟩ := upd_at (y := y) (i := 14) e14
            dsimp [upd]
            refine wpOp_step rfl (fun K2 hK2 => ?_)
            go_simp
            exact hK2 _ _ (hK _ _ hS rfl (Below.refl _ _))
          · have e14 : y 14 = _ := hd 14 rfl
            have e15 : y 15 = _ := hd 15 rfl
            obtain ⟨y, rfl⟩ := upd_at (y := y) (i := 14) e14
            obtain ⟨y, rfl⟩ := upd_at (y := y) (i := 15) e15
            dsimp [upd]
            refine wpOp_step rfl (fun K2 hK2 => ?_)
            go_simp
            exact hK2 _ _ (hK _ _ hS rfl (Below.refl _ _))
        · intro y w10 f hS hd
          have e16 : y 16 = _ := hd 16 (by decide)
          clear hd
          have BF : Hid (Below w.heap.size w w10) := below_next B8.out hS
          obtain ⟨y, rfl⟩ := upd_at (y := y) (i := 16) e16
          dsimp [upd]
          refine wpAny_one (i := 17) (by kernel_rfl) ?_
          refine wpOp_step rfl (fun K2 hK2 => ?_)
          go_simp
          refine hK2 _ _ ?_
          clear hK2 K2 e16
          refine wpAny_done (by kernel_rfl) ?_ _
          clear t0 t1 t2 v0 v1 v2 a0 a1 a2 a3 a4 a5 a6
          go_wp2_with fail
          go_ret
          first | exact ⟨rfl, BF.out⟩ | exact ⟨rfl, by rw [← hg]; exact BF.out⟩
end Go.Proofs.Ytkjlpmkhifjmdaa

/-! law03.AutomatonGrows: the row. -/
namespace Go.Proofs.Ytkjlpmkhifjmdaa
open Go.ChangeShapes Go.WideShapes Go.ChangeAt Go.WideMaps Go.WideElems Go.RowKit

theorem own : ownKnob Try.prog.godebug = none := by kernel_rfl
theorem laidOut : laidOutB Try.prog = true := by kernel_rfl
set_option maxRecDepth 100000 in
theorem lifted (os : Os) (started : os.Started) (H : Type) (enc : TypeId × Value → H) :
    ReturnsInHanded {} Try.checked os 9 .any (Rows.automatonGrowsSpec.pre6 enc Try.prog Try.f9 Rows.automatonGrowsRow.domain false) (Rows.automatonGrowsSpec.post enc Try.prog Try.f9 false true false false) := by
  refine returnsInHanded_of_change (C := Try.checked) own started (by kernel_rfl) Try.func9
    (ChangeSpec.witness6 (enc := enc) (C := Try.checked) false ⟨#[], #[.agg #[.int .u8 0, .int .u8 0, .slice none 0 0], .slice none 0 0, .agg #[.slice none 0 0, .slice none 0 0, .int .u8 0, .int .u8 0, .int .u8 0, .int .u8 0]], []⟩ 8 (by kernel_rfl) (by kernel_rfl) (by kernel_rfl) (by kernel_rfl)) ?_
  intro W base args ds gs before hval0 hW hcnd _
  have hval : ∀ (j : Nat) t v, Try.f9.params[j]? = some t → args[j]? = some v → Value.okWide Try.prog W .any base t v := hval0
  have hW' := hW
  obtain ⟨p, q, hA0, hV, rfl, hfz, hnd⟩ := hW
  have hA : DataW.TrodAll enc Try.prog W 0 (fun _ => true) true Try.f9.params.toList args.toList ds p := hA0
  rw [Try.params9] at hA hval
  obtain ⟨v0, vs0, d0, ds0, p0, q0, hargs, rfl, rfl, h0, r0⟩ := trodAll_cons hA
  obtain ⟨v1, vs1, d1, ds1, p1, q1, rfl, rfl, rfl, h1, r1⟩ := trodAll_cons r0
  obtain ⟨v2, vs2, d2, ds2, p2, q2, rfl, rfl, rfl, h2, r2⟩ := trodAll_cons r1
  obtain ⟨rfl, rfl, rfl⟩ := trodAll_nil r2
  obtain rfl : args = #[v0, v1, v2] := by cases args; simp_all
  obtain ⟨rfl, rfl⟩ := trodVars_none hV
  have k0 := h0
  have lt0 : ∀ x ∈ p0, x.block < W.heap.size := by obtain ⟨m, hm⟩ := k0; exact DataW.trod_lt m _ _ _ hm
  have k1 := h1
  have lt1 : ∀ x ∈ p1, x.block < W.heap.size := by obtain ⟨m, hm⟩ := k1; exact DataW.trod_lt m _ _ _ hm
  have k2 := h2
  have lt2 : ∀ x ∈ p2, x.block < W.heap.size := by obtain ⟨m, hm⟩ := k2; exact DataW.trod_lt m _ _ _ hm
  obtain ⟨bs, dr, A, n, k, rfl, hr0, hbs, hdr⟩ := open_raw (hval 0 24 v0 rfl rfl) h0
  obtain ⟨XA1, xk1, xs1, rfl, hx1, hz1⟩ := open_bytesL (hval 1 50 v1 rfl rfl) h1
  obtain ⟨PA2, np2, kp2, CA2, nc2, kc2, ps2, cs2, l2, r2, u2, z2, rfl, hq2⟩ := open_rawrule (hval 2 69 v2 rfl rfl) h2
  clear hA0 hval0
  refine (walk_grows bs dr A n k XA1 xk1 xs1 PA2 np2 kp2 CA2 nc2 kc2 ps2 cs2 l2 r2 u2 z2 W hr0 hbs hdr hx1 hz1 hq2).mono fun e W' ⟨he, bel⟩ => ?_
  subst he
  exact ⟨_, rfl, _, _, _, [], _, [], hW', trodAll_mk1 (shut_bool Try.underlying4 _), (trodAll_cons_mk (Below.trod laidOut (by kernel_rfl) (of_decide_eq_true (by kernel_rfl)) k0 bel lt0) (trodAll_cons_mk (Below.trod laidOut (by kernel_rfl) (of_decide_eq_true (by kernel_rfl)) k1 bel lt1) (trodAll_cons_mk (Below.trod laidOut (by kernel_rfl) (of_decide_eq_true (by kernel_rfl)) k2 bel lt2) trodAll_mk0))), rfl, bel.frame _, fun h => by cases h⟩

theorem over : Rows.automatonGrowsRow.holds Try.pinned (OpenSpec.ofChange Rows.automatonGrowsSpec) :=
  OpenClaim.holds_of_wide 9 Try.f9 rfl rfl rfl rfl rfl rfl rfl ⟨rfl, rfl, rfl, rfl, rfl⟩ rfl rfl rfl rfl rfl (by kernel_rfl) Try.func9 (by kernel_rfl)
    (of_decide_eq_true (by kernel_rfl)) (by unfold Func.isWrapper; first | (rw [if_pos (by decide +kernel)]; kernel_rfl) | (rw [if_neg (by decide +kernel)]; exact ⟨rfl, rfl⟩))
    (fun os started H enc _ => lifted os started H enc)

theorem proved : Rows.AutomatonGrowsSaid := over
end Go.Proofs.Ytkjlpmkhifjmdaa
