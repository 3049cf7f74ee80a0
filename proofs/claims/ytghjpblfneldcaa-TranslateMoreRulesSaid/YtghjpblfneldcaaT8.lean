/- Merged by program: Gw1 Gw2 -/
import Derived.Test.YtghjpblfneldcaaQ13
import Derived.Test.YtghjpblfneldcaaQ17

/-! The memory while 'append(append([]Rule{}, rules...), rule)' is computed, in any order. -/
namespace Go.Proofs.Ytghjpblfneldcaa
open Go.RowKit
structure SG (V : World) (lo : Nat) (rs : List Rule) (m am : Int) (b : Nat → Bool) (y : Nat → Value) (w : World) : Prop where
  blw : Below V.heap.size V w
  k13 : b 13 = true → b 9 = true
  k14 : b 14 = true → b 13 = true
  k15 : b 15 = true → b 14 = true
  k16 : b 16 = true → b 15 = true
  c6 : b 6 = true → b 9 = false → MadeB w V.heap.size lo (y 6) []
  c9 : b 9 = true → b 15 = false → MadeB w V.heap.size lo (y 9) rs
  c13 : b 13 = true → b 15 = false → ∃ x, IsRule lo x (y 13) w ∧ x.fits
  c14 : b 14 = true → b 15 = false → ∃ x, NewR lo [x] (y 14) w ∧ x.fits
  c15 : b 15 = true → ∃ x, MadeB w V.heap.size lo (y 15) (rs ++ [x]) ∧ x.fits
  c16 : b 16 = true → y 16 = .agg #[.int .i64 m, .int .u8 am, y 15]
section
variable {V w w' : World} {lo : Nat} {rs : List Rule} {m am : Int} {b : Nat → Bool} {y : Nat → Value} {v : Value}
theorem SG.start : SG V lo rs m am (fun _ => false) y V.drew :=
  ⟨(Below.refl _ _).drew, (fun h => by cases h), (fun h => by cases h), (fun h => by cases h), (fun h => by cases h), (fun h => by cases h), (fun h => by cases h), (fun h => by cases h), (fun h => by cases h), (fun h => by cases h), (fun h => by cases h)⟩
/-- What other operations leave, if they leave memory below. -/
theorem SG.same {i : Nat} (h : SG V lo rs m am b y w) (hi : i ≠ 6 ∧ i ≠ 9 ∧ i ≠ 13 ∧ i ≠ 14 ∧ i ≠ 15 ∧ i ≠ 16) (hb : Below w.heap.size w w') : SG V lo rs m am (fun j => if j = i then true else b j) (upd y i v) w' := by
  obtain ⟨h6, h9, h13, h14, h15, h16⟩ := hi
  obtain ⟨a0, k13, k14, k15, k16, c6, c9, c13, c14, c15, c16⟩ := h
  constructor
  · exact a0.trans (hb.mono a0.size)
  all_goals simp only [upd, if_neg h6.symm, if_neg h9.symm, if_neg h13.symm, if_neg h14.symm, if_neg h15.symm, if_neg h16.symm]
  · exact k13
  · exact k14
  · exact k15
  · exact k16
  · exact fun e1 e2 => (c6 e1 e2).keep hb
  · exact fun e1 e2 => (c9 e1 e2).keep hb
  · exact fun e1 e2 => by obtain ⟨x, h1, h2⟩ := c13 e1 e2; exact ⟨x, h1.keep hb, h2⟩
  · exact fun e1 e2 => by obtain ⟨x, h1, h2⟩ := c14 e1 e2; exact ⟨x, h1.keep hb, h2⟩
  · exact fun e1 => by obtain ⟨x, h1, h2⟩ := c15 e1; exact ⟨x, h1.keep hb, h2⟩
  · exact c16
theorem SG.at6 (h : SG V lo rs m am b y w) (hm : MadeB w' V.heap.size lo v []) (hb : Below w.heap.size w w') : SG V lo rs m am (fun j => if j = 6 then true else b j) (upd y 6 v) w' := by
  obtain ⟨a0, k13, k14, k15, k16, c6, c9, c13, c14, c15, c16⟩ := h
  constructor
  · exact a0.trans (hb.mono a0.size)
  all_goals simp [upd]
  · exact k13
  · exact k14
  · exact k15
  · exact k16
  · exact fun _ => hm
  · exact fun e1 e2 => (c9 e1 e2).keep hb
  · exact fun e1 e2 => by obtain ⟨x, h1, h2⟩ := c13 e1 e2; exact ⟨x, h1.keep hb, h2⟩
  · exact fun e1 e2 => by obtain ⟨x, h1, h2⟩ := c14 e1 e2; exact ⟨x, h1.keep hb, h2⟩
  · exact fun e1 => by obtain ⟨x, h1, h2⟩ := c15 e1; exact ⟨x, h1.keep hb, h2⟩
  · exact c16
theorem SG.at9 (h : SG V lo rs m am b y w) (h0 : b 9 = false) (hm : MadeB w' V.heap.size lo v rs) (hb : Below V.heap.size w w') : SG V lo rs m am (fun j => if j = 9 then true else b j) (upd y 9 v) w' := by
  obtain ⟨a0, k13, k14, k15, k16, c6, c9, c13, c14, c15, c16⟩ := h
  have n13 : b 13 = false := by cases e : b 13 with | false => rfl | true => rw [k13 e] at h0; cases h0
  have n14 : b 14 = false := by cases e : b 14 with | false => rfl | true => rw [k14 e] at n13; cases n13
  have n15 : b 15 = false := by cases e : b 15 with | false => rfl | true => rw [k15 e] at n14; cases n14
  have n16 : b 16 = false := by cases e : b 16 with | false => rfl | true => rw [k16 e] at n15; cases n15
  constructor
  · exact a0.trans hb
  all_goals simp [upd, n13, n14, n15, n16]
  exact hm
theorem SG.at13 {x : Rule} (h : SG V lo rs m am b y w) (h9 : b 9 = true) (h0 : b 13 = false) (hm : IsRule lo x v w') (hf : x.fits) (hb : Below w.heap.size w w') : SG V lo rs m am (fun j => if j = 13 then true else b j) (upd y 13 v) w' := by
  obtain ⟨a0, k13, k14, k15, k16, c6, c9, c13, c14, c15, c16⟩ := h
  have n14 : b 14 = false := by cases e : b 14 with | false => rfl | true => rw [k14 e] at h0; cases h0
  have n15 : b 15 = false := by cases e : b 15 with | false => rfl | true => rw [k15 e] at n14; cases n14
  have n16 : b 16 = false := by cases e : b 16 with | false => rfl | true => rw [k16 e] at n15; cases n15
  constructor
  · exact a0.trans (hb.mono a0.size)
  all_goals simp [upd, h9, n14, n15, n16]
  · exact (c9 h9 n15).keep hb
  · exact ⟨x, hm, hf⟩
theorem SG.at14 {x : Rule} (h : SG V lo rs m am b y w) (h13 : b 13 = true) (h0 : b 14 = false) (hm : NewR lo [x] v w') (hf : x.fits) (hb : Below w.heap.size w w') : SG V lo rs m am (fun j => if j = 14 then true else b j) (upd y 14 v) w' := by
  obtain ⟨a0, k13, k14, k15, k16, c6, c9, c13, c14, c15, c16⟩ := h
  have h9 := k13 h13
  have n15 : b 15 = false := by cases e : b 15 with | false => rfl | true => rw [k15 e] at h0; cases h0
  have n16 : b 16 = false := by cases e : b 16 with | false => rfl | true => rw [k16 e] at n15; cases n15
  constructor
  · exact a0.trans (hb.mono a0.size)
  all_goals simp [upd, h9, h13, n15, n16]
  · exact (c9 h9 n15).keep hb
  · obtain ⟨x', h1, h2⟩ := c13 h13 n15; exact ⟨x', h1.keep hb, h2⟩
  · exact ⟨x, hm, hf⟩
theorem SG.at15 {x : Rule} (h : SG V lo rs m am b y w) (h14 : b 14 = true) (h0 : b 15 = false) (hm : MadeB w' V.heap.size lo v (rs ++ [x])) (hf : x.fits) (hb : Below V.heap.size w w') : SG V lo rs m am (fun j => if j = 15 then true else b j) (upd y 15 v) w' := by
  obtain ⟨a0, k13, k14, k15, k16, c6, c9, c13, c14, c15, c16⟩ := h
  have h13 := k14 h14
  have h9 := k13 h13
  have n16 : b 16 = false := by cases e : b 16 with | false => rfl | true => rw [k16 e] at h0; cases h0
  constructor
  · exact a0.trans hb
  all_goals simp [upd, h9, h13, h14, n16]
  exact ⟨x, hm, hf⟩
theorem SG.at16 (h : SG V lo rs m am b y w) (h15 : b 15 = true) (hv : v = .agg #[.int .i64 m, .int .u8 am, y 15]) : SG V lo rs m am (fun j => if j = 16 then true else b j) (upd y 16 v) w := by
  obtain ⟨a0, k13, k14, k15, k16, c6, c9, c13, c14, c15, c16⟩ := h
  have h14 := k15 h15
  have h13 := k14 h14
  have h9 := k13 h13
  constructor
  · exact a0
  all_goals simp [upd, h9, h13, h14, h15]
  · exact c15 h15
  · exact hv
end
section
variable {ops : Array Oper}
/-- append of all rules of a row onto a row of the call's own, in a region that draws its order. -/
theorem wpOp_append_rules {i : Nat} {o : Oper} {a : Act} {w : World} {K : Act → World → Prop} {Q : Exit → Act → World → Prop} (hi : ops[i]? = some o) (hgd : o.guard = none) (s x : Operand)
    (ho : o.op = .call { callee := .builtin .append, args := #[s, x], argTypes := #[28, 28] })
    (base lo base2 : Nat) (v u : Value) (rs new : List Rule) (hs : a.eval s = v) (hm : MadeB w base lo v rs) (hx : a.eval x = u) (hn : MadeB w base2 lo u new) (hlen : rs.length + new.length ≤ 1000) (h0 : 0 < new.length) (hbase : base ≤ w.heap.size)
    (h : ∀ v' w', MadeB w' base lo v' (rs ++ new) → Onto base w w' → K (a.put o.dst v') w') : wpOp Try.prog ops Q i K a w := by
  obtain ⟨i0, hi0, hz0, hz1, hz2⟩ := info_parts info_rule
  obtain ⟨A, k, vals, e, hown, hr⟩ := hm
  obtain ⟨A2, k2, nv, e2, hown2, hnr⟩ := hn
  rcases hown2.2 with ⟨e3, hn0⟩ | ⟨g, cap, cur, e3, hg, hblk, hcap, _⟩
  · omega
  · have hcell := hown2.cells (g := g) (by rw [e3]; rfl)
    refine wpOp_step hi fun K2 hK2 => ?_
    refine step_append_own hgd s x 28 ho base 77 i0 (.agg #[.string ⟨#[]⟩, .slice none 0 0, .int .u8 0, .int .u8 0, .int .i64 0, .int .i64 0]) 6 64 Try.underlying28 hi0 hz0 hz1 hz2 rfl (by decide) v rs.length vals hs hown ⟨g, 0, none⟩ new.length cap nv (hx.trans e3) hnr.1.1 hcell hnr.oneCell ?_ ?_ hbase ?_
    · unfold maxLen; omega
    · omega
    intro v' w' h1 h2
    have hO := own_onto hown h2
    exact hK2 _ _ (h v' w' (Made.app hr hnr h1 hO h0) hO)
end
/-- What the operations give besides. -/
def phiGw (V : World) (L : List (Option Value)) (i : Nat) (v : Value) (w : World) : Prop := match L[i]? with
  | some (some u) => v = u
  | _ => if i = 17 then ∃ g, v = .pointer (some ⟨g, 0, none⟩) ∧ V.heap.size ≤ g ∧ Blk w g 30 #[.int .i64 0, .int .u8 0, .slice none 0 0] else True
theorem phiGw_keep {V w w' : World} {L : List (Option Value)} {i : Nat} {v : Value} (hw : ∀ g, Blk w g 30 #[.int .i64 0, .int .u8 0, .slice none 0 0] → Blk w' g 30 #[.int .i64 0, .int .u8 0, .slice none 0 0]) (h : phiGw V L i v w) : phiGw V L i v w' := by
  unfold phiGw at h ⊢
  generalize L[i]? = o at *
  match o, h with
  | some (some u), h => exact h
  | some none, h =>
    dsimp only at h ⊢
    split
    · rename_i e
      rw [if_pos e] at h
      obtain ⟨g, e1, hg, hB⟩ := h
      exact ⟨g, e1, hg, hw g hB⟩
    · trivial
  | none, h =>
    dsimp only at h ⊢
    split
    · rename_i e
      rw [if_pos e] at h
      obtain ⟨g, e1, hg, hB⟩ := h
      exact ⟨g, e1, hg, hw g hB⟩
    · trivial
theorem phiGw_below {V w w' : World} {L : List (Option Value)} {i : Nat} {v : Value} (hb : Below w.heap.size w w') (h : phiGw V L i v w) : phiGw V L i v w' := phiGw_keep (fun _ h => h.keep hb (Blk.lt h)) h
theorem phiGw_onto {V w w' : World} {L : List (Option Value)} {i base : Nat} {v : Value} (ho : Onto base w w') (h : phiGw V L i v w) : phiGw V L i v w' := phiGw_keep (fun _ h => ho.blk h (by decide)) h
def shm (m : Int) : Int := if m = 1 then 2 else 4
end Go.Proofs.Ytghjpblfneldcaa

/-! The memory while 'append(append([]Rule{}, rules...), rule)' is computed with the same modes, in any order. -/
namespace Go.Proofs.Ytghjpblfneldcaa
open Go.RowKit
structure SH (V : World) (lo : Nat) (rs : List Rule) (m am : Int) (b : Nat → Bool) (y : Nat → Value) (w : World) : Prop where
  blw : Below V.heap.size V w
  k11 : b 11 = true → b 7 = true
  k12 : b 12 = true → b 11 = true
  k13 : b 13 = true → b 12 = true
  k14 : b 14 = true → b 13 = true
  c4 : b 4 = true → b 7 = false → MadeB w V.heap.size lo (y 4) []
  c7 : b 7 = true → b 13 = false → MadeB w V.heap.size lo (y 7) rs
  c11 : b 11 = true → b 13 = false → ∃ x, IsRule lo x (y 11) w ∧ x.fits
  c12 : b 12 = true → b 13 = false → ∃ x, NewR lo [x] (y 12) w ∧ x.fits
  c13 : b 13 = true → ∃ x, MadeB w V.heap.size lo (y 13) (rs ++ [x]) ∧ x.fits
  c14 : b 14 = true → y 14 = .agg #[.int .i64 m, .int .u8 am, y 13]
section
variable {V w w' : World} {lo : Nat} {rs : List Rule} {m am : Int} {b : Nat → Bool} {y : Nat → Value} {v : Value}
theorem SH.start : SH V lo rs m am (fun _ => false) y V.drew :=
  ⟨(Below.refl _ _).drew, (fun h => by cases h), (fun h => by cases h), (fun h => by cases h), (fun h => by cases h), (fun h => by cases h), (fun h => by cases h), (fun h => by cases h), (fun h => by cases h), (fun h => by cases h), (fun h => by cases h)⟩
/-- What other operations leave, if they leave memory below. -/
theorem SH.same {i : Nat} (h : SH V lo rs m am b y w) (hi : i ≠ 4 ∧ i ≠ 7 ∧ i ≠ 11 ∧ i ≠ 12 ∧ i ≠ 13 ∧ i ≠ 14) (hb : Below w.heap.size w w') : SH V lo rs m am (fun j => if j = i then true else b j) (upd y i v) w' := by
  obtain ⟨h4, h7, h11, h12, h13, h14⟩ := hi
  obtain ⟨a0, k11, k12, k13, k14, c4, c7, c11, c12, c13, c14⟩ := h
  constructor
  · exact a0.trans (hb.mono a0.size)
  all_goals simp only [upd, if_neg h4.symm, if_neg h7.symm, if_neg h11.symm, if_neg h12.symm, if_neg h13.symm, if_neg h14.symm]
  · exact k11
  · exact k12
  · exact k13
  · exact k14
  · exact fun e1 e2 => (c4 e1 e2).keep hb
  · exact fun e1 e2 => (c7 e1 e2).keep hb
  · exact fun e1 e2 => by obtain ⟨x, h1, h2⟩ := c11 e1 e2; exact ⟨x, h1.keep hb, h2⟩
  · exact fun e1 e2 => by obtain ⟨x, h1, h2⟩ := c12 e1 e2; exact ⟨x, h1.keep hb, h2⟩
  · exact fun e1 => by obtain ⟨x, h1, h2⟩ := c13 e1; exact ⟨x, h1.keep hb, h2⟩
  · exact c14
theorem SH.at4 (h : SH V lo rs m am b y w) (hm : MadeB w' V.heap.size lo v []) (hb : Below w.heap.size w w') : SH V lo rs m am (fun j => if j = 4 then true else b j) (upd y 4 v) w' := by
  obtain ⟨a0, k11, k12, k13, k14, c4, c7, c11, c12, c13, c14⟩ := h
  constructor
  · exact a0.trans (hb.mono a0.size)
  all_goals simp [upd]
  · exact k11
  · exact k12
  · exact k13
  · exact k14
  · exact fun _ => hm
  · exact fun e1 e2 => (c7 e1 e2).keep hb
  · exact fun e1 e2 => by obtain ⟨x, h1, h2⟩ := c11 e1 e2; exact ⟨x, h1.keep hb, h2⟩
  · exact fun e1 e2 => by obtain ⟨x, h1, h2⟩ := c12 e1 e2; exact ⟨x, h1.keep hb, h2⟩
  · exact fun e1 => by obtain ⟨x, h1, h2⟩ := c13 e1; exact ⟨x, h1.keep hb, h2⟩
  · exact c14
theorem SH.at7 (h : SH V lo rs m am b y w) (h0 : b 7 = false) (hm : MadeB w' V.heap.size lo v rs) (hb : Below V.heap.size w w') : SH V lo rs m am (fun j => if j = 7 then true else b j) (upd y 7 v) w' := by
  obtain ⟨a0, k11, k12, k13, k14, c4, c7, c11, c12, c13, c14⟩ := h
  have n11 : b 11 = false := by cases e : b 11 with | false => rfl | true => rw [k11 e] at h0; cases h0
  have n12 : b 12 = false := by cases e : b 12 with | false => rfl | true => rw [k12 e] at n11; cases n11
  have n13 : b 13 = false := by cases e : b 13 with | false => rfl | true => rw [k13 e] at n12; cases n12
  have n14 : b 14 = false := by cases e : b 14 with | false => rfl | true => rw [k14 e] at n13; cases n13
  constructor
  · exact a0.trans hb
  all_goals simp [upd, n11, n12, n13, n14]
  exact hm
theorem SH.at11 {x : Rule} (h : SH V lo rs m am b y w) (h7 : b 7 = true) (h0 : b 11 = false) (hm : IsRule lo x v w') (hf : x.fits) (hb : Below w.heap.size w w') : SH V lo rs m am (fun j => if j = 11 then true else b j) (upd y 11 v) w' := by
  obtain ⟨a0, k11, k12, k13, k14, c4, c7, c11, c12, c13, c14⟩ := h
  have n12 : b 12 = false := by cases e : b 12 with | false => rfl | true => rw [k12 e] at h0; cases h0
  have n13 : b 13 = false := by cases e : b 13 with | false => rfl | true => rw [k13 e] at n12; cases n12
  have n14 : b 14 = false := by cases e : b 14 with | false => rfl | true => rw [k14 e] at n13; cases n13
  constructor
  · exact a0.trans (hb.mono a0.size)
  all_goals simp [upd, h7, n12, n13, n14]
  · exact (c7 h7 n13).keep hb
  · exact ⟨x, hm, hf⟩
theorem SH.at12 {x : Rule} (h : SH V lo rs m am b y w) (h11 : b 11 = true) (h0 : b 12 = false) (hm : NewR lo [x] v w') (hf : x.fits) (hb : Below w.heap.size w w') : SH V lo rs m am (fun j => if j = 12 then true else b j) (upd y 12 v) w' := by
  obtain ⟨a0, k11, k12, k13, k14, c4, c7, c11, c12, c13, c14⟩ := h
  have h7 := k11 h11
  have n13 : b 13 = false := by cases e : b 13 with | false => rfl | true => rw [k13 e] at h0; cases h0
  have n14 : b 14 = false := by cases e : b 14 with | false => rfl | true => rw [k14 e] at n13; cases n13
  constructor
  · exact a0.trans (hb.mono a0.size)
  all_goals simp [upd, h7, h11, n13, n14]
  · exact (c7 h7 n13).keep hb
  · obtain ⟨x', h1, h2⟩ := c11 h11 n13; exact ⟨x', h1.keep hb, h2⟩
  · exact ⟨x, hm, hf⟩
theorem SH.at13 {x : Rule} (h : SH V lo rs m am b y w) (h12 : b 12 = true) (h0 : b 13 = false) (hm : MadeB w' V.heap.size lo v (rs ++ [x])) (hf : x.fits) (hb : Below V.heap.size w w') : SH V lo rs m am (fun j => if j = 13 then true else b j) (upd y 13 v) w' := by
  obtain ⟨a0, k11, k12, k13, k14, c4, c7, c11, c12, c13, c14⟩ := h
  have h11 := k12 h12
  have h7 := k11 h11
  have n14 : b 14 = false := by cases e : b 14 with | false => rfl | true => rw [k14 e] at h0; cases h0
  constructor
  · exact a0.trans hb
  all_goals simp [upd, h7, h11, h12, n14]
  exact ⟨x, hm, hf⟩
theorem SH.at14 (h : SH V lo rs m am b y w) (h13 : b 13 = true) (hv : v = .agg #[.int .i64 m, .int .u8 am, y 13]) : SH V lo rs m am (fun j => if j = 14 then true else b j) (upd y 14 v) w := by
  obtain ⟨a0, k11, k12, k13, k14, c4, c7, c11, c12, c13, c14⟩ := h
  have h12 := k13 h13
  have h11 := k12 h12
  have h7 := k11 h11
  constructor
  · exact a0
  all_goals simp [upd, h7, h11, h12, h13]
  · exact c13 h13
  · exact hv
end
/-- What the operations give besides. -/
def phiHw (V : World) (L : List (Option Value)) (i : Nat) (v : Value) (w : World) : Prop := match L[i]? with
  | some (some u) => v = u
  | _ => if i = 15 then ∃ g, v = .pointer (some ⟨g, 0, none⟩) ∧ V.heap.size ≤ g ∧ Blk w g 30 #[.int .i64 0, .int .u8 0, .slice none 0 0] else True
theorem phiHw_keep {V w w' : World} {L : List (Option Value)} {i : Nat} {v : Value} (hw : ∀ g, Blk w g 30 #[.int .i64 0, .int .u8 0, .slice none 0 0] → Blk w' g 30 #[.int .i64 0, .int .u8 0, .slice none 0 0]) (h : phiHw V L i v w) : phiHw V L i v w' := by
  unfold phiHw at h ⊢
  generalize L[i]? = o at *
  match o, h with
  | some (some u), h => exact h
  | some none, h =>
    dsimp only at h ⊢
    split
    · rename_i e
      rw [if_pos e] at h
      obtain ⟨g, e1, hg, hB⟩ := h
      exact ⟨g, e1, hg, hw g hB⟩
    · trivial
  | none, h =>
    dsimp only at h ⊢
    split
    · rename_i e
      rw [if_pos e] at h
      obtain ⟨g, e1, hg, hB⟩ := h
      exact ⟨g, e1, hg, hw g hB⟩
    · trivial
theorem phiHw_below {V w w' : World} {L : List (Option Value)} {i : Nat} {v : Value} (hb : Below w.heap.size w w') (h : phiHw V L i v w) : phiHw V L i v w' := phiHw_keep (fun _ h => h.keep hb (Blk.lt h)) h
theorem phiHw_onto {V w w' : World} {L : List (Option Value)} {i base : Nat} {v : Value} (ho : Onto base w w') (h : phiHw V L i v w) : phiHw V L i v w' := phiHw_keep (fun _ h => ho.blk h (by decide)) h
end Go.Proofs.Ytghjpblfneldcaa
