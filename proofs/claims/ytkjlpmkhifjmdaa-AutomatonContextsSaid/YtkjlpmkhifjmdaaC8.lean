/- Merged by program: Hd Lw8a Lw8 -/
import Derived.Test.YtkjlpmkhifjmdaaQ13
import Derived.Test.YtkjlpmkhifjmdaaQ5
import Derived.Test.YtkjlpmkhifjmdaaQ20
import Derived.Test.YtkjlpmkhifjmdaaQ21
import Derived.Test.YtkjlpmkhifjmdaaQ15
import Derived.Deep.QuietTactic
import Derived.BigQuiet
import Derived.Test.YtkjlpmkhifjmdaaQ22
import Derived.ProofKit
import Derived.OpenShut

/-! What the operations of a drawn region give, as a list of what holds of each. -/
namespace Go.Proofs.Ytkjlpmkhifjmdaa
open Go.RowKit
def phiV (L : List (Option Value)) (t : TypeId) (cs : Array Value) (mk : Nat → Value) (i : Nat) (v : Value) (w : World) : Prop := match L[i]? with
  | some (some u) => v = u
  | some none => ∃ g, v = mk g ∧ Blk w g t cs
  | none => True
theorem phiV_keep {L : List (Option Value)} {t : TypeId} {cs : Array Value} {mk : Nat → Value} {i : Nat} {v : Value} {w w' : World} (hb : Below w.heap.size w w') (h : phiV L t cs mk i v w) : phiV L t cs mk i v w' := by
  unfold phiV at h ⊢
  split
  · rename_i u hu
    rw [hu] at h
    exact h
  · rename_i hu
    rw [hu] at h
    obtain ⟨g, e, hB⟩ := h
    exact ⟨g, e, hB.keep hb hB.lt⟩
  · trivial
/-- A value; a value of some form; a block that was made. -/
def pv (u : Value) : Value → World → Prop := fun v _ => v = u
def pe {α : Type} (f : α → Value) : Value → World → Prop := fun v _ => ∃ x, v = f x
def pb (mk : Nat → Value) (t : TypeId) (cs : Array Value) : Value → World → Prop := fun v w => ∃ g, v = mk g ∧ Blk w g t cs
def pq {α : Type} (f : α → Value) (p : α → World → Prop) : Value → World → Prop := fun v w => ∃ x, v = f x ∧ p x w
def Stays (p : Value → World → Prop) : Prop := ∀ v w w', p v w → Below w.heap.size w w' → p v w'
theorem pv_st {u : Value} : Stays (pv u) := fun _ _ _ h _ => h
theorem pe_st {α : Type} {f : α → Value} : Stays (pe f) := fun _ _ _ h _ => h
theorem pb_st {mk : Nat → Value} {t : TypeId} {cs : Array Value} : Stays (pb mk t cs) := fun _ _ _ ⟨g, e, hB⟩ hb => ⟨g, e, hB.keep hb hB.lt⟩
theorem pq_st {α : Type} {f : α → Value} {p : α → World → Prop} (h : ∀ x w w', p x w → Below w.heap.size w w' → p x w') : Stays (pq f p) := fun _ _ _ ⟨x, e, hp⟩ hb => ⟨x, e, h x _ _ hp hb⟩
def StayL : List (Value → World → Prop) → Prop
  | [] => True
  | p :: r => Stays p ∧ StayL r
theorem stay_nil : StayL [] := trivial
theorem stay_cons {p : Value → World → Prop} {r : List (Value → World → Prop)} (h : Stays p) (hr : StayL r) : StayL (p :: r) := ⟨h, hr⟩
def phiP (L : List (Value → World → Prop)) (i : Nat) (v : Value) (w : World) : Prop := match L[i]? with
  | some p => p v w
  | none => True
theorem stay_at : ∀ (L : List (Value → World → Prop)) (i : Nat) (p : Value → World → Prop), StayL L → L[i]? = some p → Stays p := by
  intro L
  induction L with
  | nil => intro i p _ h; simp at h
  | cons a r ih =>
    intro i p hs h
    cases i with
    | zero =>
      have e : a = p := by simpa using h
      rw [← e]; exact hs.1
    | succ i => exact ih i p hs.2 (by simpa using h)
theorem phiP_keep {L : List (Value → World → Prop)} (hs : StayL L) {i : Nat} {v : Value} {w w' : World} (h : phiP L i v w) (hb : Below w.heap.size w w') : phiP L i v w' := by
  unfold phiP at h ⊢
  split
  · rename_i p hp
    rw [hp] at h
    exact stay_at L i p hs hp v w w' h hb
  · trivial
end Go.Proofs.Ytkjlpmkhifjmdaa

/-! law03.AutomatonContexts. -/
namespace Go.Proofs.Ytkjlpmkhifjmdaa
open Go.RowKit Go.Maps
theorem bytes_append (a b : ByteArray) : bytes (a ++ b) = bytes a ++ bytes b := by
  unfold bytes
  rw [ByteArray.data_append, Array.toList_append, List.map_append]
def InR (n : Nat) (ks : List Int) : Prop := ∀ k ∈ ks, 0 ≤ k ∧ k < (n : Int)
/-- What the law keeps while it looks at a list: the table, the two lists. -/
structure LC (w0 : World) (q : Nat) (m a : Int) (A2 : Option Addr) (k2 c : Nat) (rs : List Rule) (row : Array Value) (l0 l1 : List Int) (w : World) : Prop where
  t : TB q m a A2 rs.length k2 rs w
  c : Blk w c 57 row
  p0 : ∃ LA lk, row[0]? = some (.slice LA l0.length lk) ∧ SeqN w w.heap.size LA l0
  p1 : ∃ LA lk, row[1]? = some (.slice LA l1.length lk) ∧ SeqN w w.heap.size LA l1
  b : Below w0.heap.size w0 w
theorem LC.next {w0 w w' : World} {q : Nat} {m a : Int} {A2 : Option Addr} {k2 c : Nat} {rs : List Rule} {row : Array Value} {l0 l1 : List Int} (h : LC w0 q m a A2 k2 c rs row l0 l1 w) (hb : Below w.heap.size w w') : LC w0 q m a A2 k2 c rs row l0 l1 w' := by
  obtain ⟨A0, k0, r0, s0⟩ := h.p0
  obtain ⟨A1, k1, r1, s1⟩ := h.p1
  exact ⟨h.t.next hb, h.c.keep hb h.c.lt, ⟨A0, k0, r0, s0.up hb⟩, ⟨A1, k1, r1, s1.up hb⟩, h.b.trans (hb.mono h.b.size)⟩
theorem LC.rule {w0 w : World} {q : Nat} {m a : Int} {rb ro k2 c : Nat} {rs : List Rule} {row : Array Value} {l0 l1 : List Int} (h : LC w0 q m a (some ⟨rb, ro, none⟩) k2 c rs row l0 l1 w) {kv : Nat} (hk : kv < rs.length) : rb < w.heap.size ∧ RuleAt w w.heap.size rb (ro + kv * 6) rs[kv] := by
  obtain ⟨b, o, e, hb, hc⟩ := h.t.r (by omega)
  have e1 : rb = b := by injection e with e; injection e
  have e2 : ro = o := by injection e with e; injection e
  rw [e1, e2]
  exact ⟨hb, hc kv hk⟩
theorem seqN_at {w : World} {B lb lo : Nat} {ks : List Int} (h : SeqN w B (some ⟨lb, lo, none⟩) ks) {i : Nat} (hi : i < ks.length) : lb < B ∧ w.cell? ⟨lb, lo + i, none⟩ = some (.int .i64 ks[i]) := by
  obtain ⟨b, o, e, hb, hc⟩ := h (by omega)
  have e1 : lb = b := by injection e with e; injection e
  have e2 : lo = o := by injection e with e; injection e
  rw [e1, e2]
  exact ⟨hb, hc i hi⟩
theorem rule_at {rs : List Rule} {kv : Nat} (h : kv < rs.length) : ruleOf rs (kv : Int) = rs[kv] := by
  unfold ruleOf
  rw [List.getD_eq_getElem?_getD, show ((kv : Int)).toNat = kv from rfl, List.getElem?_eq_getElem h, Option.getD_some]
/-- What is left to be said of a list, when i of its rules have been looked at. -/
def CtxI (rs : List Rule) (ls : List Int) (i : Nat) (fb : Bool) (mo : Int) (S : ByteArray) : Prop := (fb && ctxL rs mo (bytes S) (ls.drop i)) = ctxL rs 0 [] ls ∧ modeL rs mo (ls.drop i) = modeL rs 0 ls
theorem ctxL_cons (rs : List Rule) (m k : Int) (b : List Nat) (r : List Int) : ctxL rs m b (k :: r) = ((decide ((ruleOf rs k).f = m) && bitB (ruleOf rs k).l (lcl b) && bitB (ruleOf rs k).r (fcl (prtL rs r))) && ctxL rs (ruleOf rs k).t (b ++ bytes (ruleOf rs k).p) r) := rfl
theorem modeL_cons (rs : List Rule) (m k : Int) (r : List Int) : modeL rs m (k :: r) = modeL rs (ruleOf rs k).t r := rfl
theorem CtxI.step {rs : List Rule} {ls : List Int} {i : Nat} {fb : Bool} {mo k : Int} {S : ByteArray} {x : Rule} (h : CtxI rs ls i fb mo S) (hd : ls.drop i = k :: ls.drop (i + 1)) (hx : ruleOf rs k = x) :
    CtxI rs ls (i + 1) (fb && (decide (x.f = mo) && bitB x.l (lcl (bytes S)) && bitB x.r (fcl (prtL rs (ls.drop (i + 1)))))) x.t (S ++ x.p) := by
  obtain ⟨h1, h2⟩ := h
  rw [hd, ctxL_cons, hx] at h1
  rw [hd, modeL_cons, hx] at h2
  refine ⟨?_, h2⟩
  rw [bytes_append, Bool.and_assoc]
  exact h1
/-- What Run hands back. -/
def runV (a : Int) (rs : List Rule) (ks : List Int) (z : Option Addr × Nat) : Value := .agg #[.string (strOf (runT rs ks).p), .slice z.1 (runT rs ks).c.length z.2, .int .i64 ((runT rs ks).n : Nat), .int .i64 (runT rs ks).st.mode, .int .i64 (runT rs ks).st.last, .int .u8 (runT rs ks).st.need, .bool (runOk a rs ks)]
theorem runV_ok (a : Int) (rs : List Rule) (ks : List Int) (z : Option Addr × Nat) (w : World) : (Instr.field 41 (runV a rs ks z) 4).run Try.prog w = .ok (.bool (runOk a rs ks)) w := by unfold runV; kernel_rfl
theorem CtxI.start {rs : List Rule} {ls : List Int} : CtxI rs ls 0 true 0 ⟨#[]⟩ := ⟨rfl, rfl⟩
set_option maxRecDepth 10000 in
set_option maxHeartbeats 4000000 in
theorem walk_ctx (bs dr : Int) (A : Option Addr) (n k : Nat) (XA : Option Addr) (xk : Nat) (xs : List Int) (YA : Option Addr) (yk : Nat) (ys : List Int) (w : World) (hW : RawMs w w.heap.size A n) (hbs : 0 ≤ bs ∧ bs < 256) (hdr : 0 ≤ dr ∧ dr < 256) (hX : Seq w w.heap.size XA xs) (hxs : ∀ z ∈ xs, 0 ≤ z ∧ z < 256) (hY : Seq w w.heap.size YA ys) (hys : ∀ z ∈ ys, 0 ≤ z ∧ z < 256) :
    Calls Try.prog 5 #[.agg #[.int .u8 bs, .int .u8 dr, .slice A n k], .slice XA xs.length xk, .slice YA ys.length yk] w fun e w' => e = .returned (.bool true) ∧ Below w.heap.size w w' := by
  obtain ⟨g, hg⟩ : ∃ g, w.heap.size = g := ⟨_, rfl⟩
  have V0A : Hid (Blk (w.alloc (.cells #[.int .u8 bs, .int .u8 dr, .slice A n k] 24)) g 24 #[.int .u8 bs, .int .u8 dr, .slice A n k]) := by
    unfold Hid; rw [← hg]; exact Blk.new w _ _
  have V0B : Hid (Below w.heap.size w (w.alloc (.cells #[.int .u8 bs, .int .u8 dr, .slice A n k] 24))) := (Below.refl _ _).alloc (Nat.le_refl _) _
  have HW := Lib.hid hW
  have HX := Lib.hid hX
  have HXS := Lib.hid hxs
  have HY := Lib.hid hY
  have HYS := Lib.hid hys
  clear hW hX hxs hY hys
  go_enter Try.func5, Try.ntmps5
  go_wp2_with fail
  generalize w.alloc (.cells #[.int .u8 bs, .int .u8 dr, .slice A n k] 24) = V0 at *
  refine (sanity3_any _).mono ?_
  rintro e w1 ⟨rfl, hb1⟩
  have A1 := Lib.hid (V0A.out.keep hb1 (Blk.lt V0A.out))
  have B1 : Hid (Below w.heap.size w w1) := below_next V0B.out hb1
  clear hb1 V0A V0B
  have a0 := A1.out.cell 0
  have a1 := A1.out.cell 1
  have a2 := A1.out.cell 2
  simp only [List.getElem?_toArray, List.getElem?_cons_zero, List.getElem?_cons_succ] at a0 a1 a2
  go_wp2_with fail
  have HW1 : RawMs w1 w1.heap.size A n := HW.out.up B1.out
  refine (made_any w1 A n k bs dr HW1 hbs hdr).mono ?_
  rintro e w2 ⟨m, a, rs, v, rfl, hM, hG, hl10, hm12, ha, hb2⟩
  obtain ⟨A2, k2, rfl, hR2, _⟩ := (Made.b hM).rules
  have HG := Lib.hid hG
  have R2 := Lib.hid hR2
  have B2 : Hid (Below w.heap.size w w2) := below_next B1.out hb2
  clear hb2 hM hG hR2 a0 a1 a2 HW1 B1 A1 HW
  obtain ⟨q, hq⟩ : ∃ q, w2.heap.size = q := ⟨_, rfl⟩
  go_upto_region 3 with fail
  have BA : Hid (Below w2.heap.size w2 (w2.alloc (.cells #[.int .i64 m, .int .u8 a, .slice A2 rs.length k2] 31))) := below_box _ _ _
  have T3 : Hid (Blk (w2.alloc (.cells #[.int .i64 m, .int .u8 a, .slice A2 rs.length k2] 31)) q 31 #[.int .i64 m, .int .u8 a, .slice A2 rs.length k2]) := by
    unfold Hid; rw [← hq]; exact Blk.new w2 _ _
  have R3 := Lib.hid (R2.out.up BA.out)
  have B3 : Hid (Below w.heap.size w (w2.alloc (.cells #[.int .i64 m, .int .u8 a, .slice A2 rs.length k2] 31))) := below_next B2.out BA.out
  generalize w2.alloc (.cells #[.int .i64 m, .int .u8 a, .slice A2 rs.length k2] 31) = w3 at *
  clear hq BA R2 B2
  have t0 := T3.out.cell 0
  have t1 := T3.out.cell 1
  have t2 := T3.out.cell 2
  simp only [List.getElem?_toArray, List.getElem?_cons_zero, List.getElem?_cons_succ] at t0 t1 t2
  have hm8 : 1 ≤ m ∧ m ≤ 8 := by omega
  have hmax : rs.length ≤ 64 := by omega
  have hrs : 1 ≤ rs.length := by
    have := HG.out.1
    unfold numsB at this
    simp only [Bool.and_eq_true, decide_eq_true_eq] at this
    omega
  have HFT := Lib.hid R3.out.fit
  go_wp2_with fail
  refine (walk_any m a A2 rs.length k2 rs w3 rfl R3.out HG.out hmax hm8 ha XA xs.length xk xs rfl (HX.out.up B3.out) HXS.out).mono ?_
  rintro e w4 ⟨hb4, PA, pk, ks, hown, hend⟩
  have T4 : Hid (TB q m a A2 rs.length k2 rs w4) := (TB.mk T3.out R3.out).next hb4
  have B4 : Hid (Below w.heap.size w w4) := below_next B3.out hb4
  have HS0 := Lib.hid (own_seqN hown)
  clear hb4 hown t0 t1 t2 T3 R3 B3 HX HXS
  obtain ⟨pb, rfl, hkr, hkl⟩ : ∃ pb : Bool, e = .returned (.tuple #[.slice PA ks.length pk, .bool pb]) ∧ InR rs.length ks ∧ ks.length ≤ 4000 := by
    rcases hend with ⟨h1, h2, _⟩ | ⟨h1, h2, h3⟩
    · subst h2; exact ⟨false, h1, (fun k h => by cases h), Nat.zero_le _⟩
    · exact ⟨true, h1, (ok_run h2).2.2.1, h3⟩
  clear hend
  have HKR := Lib.hid hkr
  clear hkr
  dsimp only
  go_upto_block 0 with fail
  have HO : Hid ((w4.alloc (.cells #[] 3)).ownsRow w4.heap.size 3 1 (.slice (some ⟨w4.heap.size, 0, none⟩) 0 0) 0 (([] : List Int).map (Value.int .i64))) := World.ownsRow_lit w4 #[] 0 (Nat.le_refl _) (Nat.zero_le _) rfl
  have HB : Hid (Below w4.heap.size w4 (w4.alloc (.cells #[] 3))) := below_box _ _ _
  generalize w4.alloc (.cells #[] 3) = V at *
  obtain ⟨h, hh⟩ : ∃ h, w4.heap.size = h := ⟨_, rfl⟩
  rw [hh] at HO HB
  simp only [hh]
  have HH := Lib.hid hh
  clear hh
  obtain ⟨i1, hj1, hy0, hy1, hy2⟩ := info_parts info_int
  go_cut [11, 12] from 34 to 55 (fun s11 _ wx => ∃ F : List Int, InR rs.length F ∧ F.length ≤ 12 ∧ wx.ownsRow h 3 1 s11 F.length (F.map (Value.int .i64)) ∧ Below h w4 wx)
  case first =>
    go_wp2_with fail
    go_loopw [11, 12] (fun s11 x wr => ∃ (i : Nat) (F : List Int), x = .int .i64 i ∧ i ≤ 12 ∧ F.length = i ∧ InR rs.length F ∧ wr.ownsRow h 3 1 s11 i (F.map (Value.int .i64)) ∧ Below h w4 wr) (fun _ x _ => 12 - (intOf x).toNat)
    case atStart => exact ⟨0, [], rfl, by omega, rfl, (fun k h => by cases h), HO.out, HB.out⟩
    case round =>
      clear HO HB
      obtain ⟨i, F, rfl, hi12, hfl, hfr, ho, hb⟩ := hrel
      have HFL := Lib.hid hfl
      have HFR := Lib.hid hfr
      have HO := Lib.hid ho
      have HB := Lib.hid hb
      clear hfl hfr ho hb
      have HTR := Lib.hid (T4.out.next (w' := wr) (by rw [HH.out]; exact HB.out))
      by_cases hgo : i < ys.length ∧ i < 12
      · obtain ⟨hlt, h12⟩ := hgo
        have h12i : (i : Int) < 12 := by omega
        have HBX : Hid (Below w.heap.size w wr) := B4.out.trans (HB.out.mono (by have := B4.out.size; have := HH.out; omega))
        obtain ⟨yb, yo, rfl, hyb, hyc⟩ := HY.out (by omega)
        have y0 := (HBX.out.cell (p := ⟨yb, yo + i, none⟩) hyb).trans (hyc i hlt)
        have hyj := HYS.out _ (List.getElem_mem hlt)
        clear hyc
        generalize ys[i]'hlt = yv at *
        obtain ⟨r, hr, hrl⟩ : ∃ r : Nat, yv % (rs.length : Int) = (r : Int) ∧ r < rs.length := by
          have h1 := Int.emod_nonneg yv (b := (rs.length : Int)) (by omega)
          have h2 := Int.emod_lt_of_pos yv (b := (rs.length : Int)) (by omega)
          exact ⟨(yv % (rs.length : Int)).toNat, by omega, by omega⟩
        have hyv0 := hyj.1
        have hyv1 := hyj.2
        clear hyj
        have hi0 : (0 : Int) ≤ (i : Int) := by omega
        have hin : (i : Int) < (ys.length : Int) := by omega
        have t2 := HTR.out.t.cell 2
        simp only [List.getElem?_toArray, List.getElem?_cons_zero, List.getElem?_cons_succ] at t2
        have hqb : q < wr.heap.size := Blk.lt HTR.out.t
        have hyb2 : yb < wr.heap.size := by have := HBX.out.size; omega
        go_upto_region 8 with fail
        refine wp_region_head 11 1 (by kernel_rfl) (fun y => (Value.agg #[Value.int IntKind.u8 bs, Value.int IntKind.u8 dr, Value.slice A n k]) :: (Value.slice XA xs.length xk) :: (Value.slice (some ⟨yb, yo, none⟩) ys.length yk) :: (Value.pointer (some ⟨g, 0, none⟩)) :: undef :: undef :: (Value.bool false) :: (Value.bool true) :: (Value.pointer (some ⟨q, 0, none⟩)) :: (Value.slice PA ks.length pk) :: (Value.bool pb) :: u11 :: (Value.int IntKind.i64 ↑i) :: undef :: undef :: undef :: undef :: undef :: undef :: undef :: undef :: undef :: undef :: undef :: (Value.bool true) :: (Value.agg #[Value.int IntKind.u8 bs, Value.int IntKind.u8 dr, Value.slice A n k]) :: (Value.agg #[Value.int IntKind.i64 m, Value.int IntKind.u8 a, Value.slice A2 rs.length k2]) :: (Value.tuple #[Value.slice PA ks.length pk, Value.bool pb]) :: (Value.agg #[Value.int IntKind.i64 m, Value.int IntKind.u8 a, Value.slice A2 rs.length k2]) :: (Value.slice XA xs.length xk) :: (Value.tuple #[Value.slice PA ks.length pk, Value.bool pb]) :: (Value.slice PA ks.length pk) :: (Value.bool pb) :: (Value.slice (some ⟨h, 0, none⟩) 0 0) :: (Value.int IntKind.i64 ↑i) :: (Value.slice (some ⟨yb, yo, none⟩) ys.length yk) :: (Value.int IntKind.i64 ↑ys.length) :: (Value.bool true) :: (Value.bool true) :: (Value.int IntKind.i64 ↑i) :: (Value.bool true) :: (Value.bool true) :: u42 :: u43 :: y 0 :: y 1 :: y 2 :: y 3 :: y 4 :: y 5 :: y 6 :: y 7 :: y 8 :: y 9 :: y 10 :: u55 :: undef :: undef :: undef :: undef :: undef :: undef :: undef :: undef :: undef :: undef :: undef :: undef :: undef :: undef :: undef :: undef :: undef :: undef :: undef :: undef :: undef :: undef :: undef :: undef :: undef :: undef :: undef :: undef :: undef :: undef :: undef :: undef :: undef :: undef :: undef :: undef :: undef :: undef :: undef :: undef :: undef :: undef :: undef :: undef :: undef :: undef :: undef :: undef :: undef :: undef :: undef :: undef :: undef :: undef :: undef :: undef :: undef :: undef :: undef :: undef :: undef :: undef :: undef :: undef :: undef :: undef :: undef :: undef :: undef :: undef :: undef :: undef :: undef :: undef :: undef :: undef :: undef :: undef :: undef :: undef :: undef :: undef :: undef :: undef :: undef :: undef :: undef :: undef :: undef :: undef :: undef :: undef :: undef :: undef :: undef :: undef :: undef :: undef :: undef :: undef :: undef :: undef :: undef :: [])
          (fun _ w' => Below wr.heap.size wr w') (phiV [some (u11), some (.slice (some ⟨yb, yo, none⟩) ys.length yk), some (.int .i64 i), some (.pointer (some ⟨yb, yo + i, none⟩)), some (.int .u8 yv), some (.int .i64 yv), some (.pointer (some ⟨q, 2, none⟩)), some (.slice A2 rs.length k2), some (.int .i64 rs.length), some (.int .i64 r), none] 3 #[.int .i64 r] (fun g => .slice (some ⟨g, 0, none⟩) 1 1)) (fun i => match i with | 0 => u44 | 1 => u45 | 2 => u46 | 3 => u47 | 4 => u48 | 5 => u49 | 6 => u50 | 7 => u51 | 8 => u52 | 9 => u53 | 10 => u54 | _ => undef)
          (by kernel_rfl) (by kernel_rfl) (by kernel_rfl) (by kernel_rfl) (fun i v wa wb h hb => phiV_keep hb h) (Below.refl _ _).drew [0, 1, 2, 3, 4, 5, 6, 7, 8, 9, 10] (by kernel_rfl) ?_ ?_
        · refine allCons ?_ (allCons ?_ (allCons ?_ (allCons ?_ (allCons ?_ (allCons ?_ (allCons ?_ (allCons ?_ (allCons ?_ (allCons ?_ (allCons ?_ (allNil)))))))))))
          all_goals intro y w10 K hS hd hK
          · refine wpOp_step rfl (fun K2 hK2 => ?_)
            go_simp
            exact hK2 _ _ (hK _ _ hS rfl (Below.refl _ _))
          · refine wpOp_step rfl (fun K2 hK2 => ?_)
            go_simp
            exact hK2 _ _ (hK _ _ hS rfl (Below.refl _ _))
          · refine wpOp_step rfl (fun K2 hK2 => ?_)
            go_simp
            exact hK2 _ _ (hK _ _ hS rfl (Below.refl _ _))
          · have e1 : y 1 = _ := hd 1 rfl
            have e2 : y 2 = _ := hd 2 rfl
            obtain ⟨y, rfl⟩ := upd_at (y := y) (i := 1) e1
            obtain ⟨y, rfl⟩ := upd_at (y := y) (i := 2) e2
            dsimp [upd]
            refine wpOp_step rfl (fun K2 hK2 => ?_)
            go_simp
            exact hK2 _ _ (hK _ _ hS rfl (Below.refl _ _))
          · have e3 : y 3 = _ := hd 3 rfl
            obtain ⟨y, rfl⟩ := upd_at (y := y) (i := 3) e3
            dsimp [upd]
            have q0 := (hS.cell (p := ⟨yb, yo + i, none⟩) hyb2).trans y0
            refine wpOp_step rfl (fun K2 hK2 => ?_)
            go_simp
            exact hK2 _ _ (hK _ _ hS rfl (Below.refl _ _))
          · have e4 : y 4 = _ := hd 4 rfl
            obtain ⟨y, rfl⟩ := upd_at (y := y) (i := 4) e4
            dsimp [upd]
            have hwr : IntKind.i64.wrap yv = yv := IntWalk.i64_in _ (by omega)
            refine wpOp_step rfl (fun K2 hK2 => ?_)
            go_simp
            exact hK2 _ _ (hK _ _ hS rfl (Below.refl _ _))
          · refine wpOp_step rfl (fun K2 hK2 => ?_)
            go_simp
            exact hK2 _ _ (hK _ _ hS rfl (Below.refl _ _))
          · have e6 : y 6 = _ := hd 6 rfl
            obtain ⟨y, rfl⟩ := upd_at (y := y) (i := 6) e6
            dsimp [upd]
            have q2 := (hS.cell (p := ⟨q, 2, none⟩) hqb).trans t2
            refine wpOp_step rfl (fun K2 hK2 => ?_)
            go_simp
            exact hK2 _ _ (hK _ _ hS rfl (Below.refl _ _))
          · have e7 : y 7 = _ := hd 7 rfl
            obtain ⟨y, rfl⟩ := upd_at (y := y) (i := 7) e7
            dsimp [upd]
            refine wpOp_step rfl (fun K2 hK2 => ?_)
            go_simp
            exact hK2 _ _ (hK _ _ hS rfl (Below.refl _ _))
          · have e5 : y 5 = _ := hd 5 rfl
            have e8 : y 8 = _ := hd 8 rfl
            obtain ⟨y, rfl⟩ := upd_at (y := y) (i := 5) e5
            obtain ⟨y, rfl⟩ := upd_at (y := y) (i := 8) e8
            dsimp [upd]
            have hrn : ¬ rs = [] := fun e => by rw [e] at hrs; simp at hrs
            have hr2 : Int.tmod yv (rs.length : Int) = (r : Int) := by rw [Int.tmod_eq_emod_of_nonneg hyv0]; exact hr
            refine wpOp_step rfl (fun K2 hK2 => ?_)
            go_simp
            exact hK2 _ _ (hK _ _ hS rfl (Below.refl _ _))
          · have e9 : y 9 = _ := hd 9 rfl
            obtain ⟨y, rfl⟩ := upd_at (y := y) (i := 9) e9
            dsimp [upd]
            refine wpOp_step rfl (fun K2 hK2 => ?_)
            go_simp
            exact hK2 _ _ (hK _ _ (below_next hS (below_box _ _ _)) ⟨_, rfl, Blk.new _ _ _⟩ (below_box _ _ _))
        · intro y w10 f hS hd
          have e0 : y 0 = _ := hd 0 (by decide)
          obtain ⟨g9, e10, hB⟩ := hd 10 (by decide)
          clear hd
          have hO10 := own_keep HO.out hS
          have hB10 : Below h w4 w10 := HB.out.trans (hS.mono (by have := HB.out.size; have := HH.out; omega))
          have hs10 : h ≤ w10.heap.size := by have := hB10.size; have := HH.out; omega
          refine wpAny_one (i := 11) (by kernel_rfl) ?_
          refine wpOp_append_on rfl rfl _ _ 33 rfl h hs10 3 i1 (.int .i64 0) 1 8 Try.underlying33 hj1 hy0 hy1 hy2 rfl (by decide) u11 i _ e0 hO10 ⟨g9, 0, none⟩ 1 1 [.int .i64 r] e10 rfl hB.news (by simp [Value.oneCell']) (by unfold maxLen; omega) (by omega) ?_
          intro v11 w11 hown hgr _
          have HO11 : Hid (w11.ownsRow h 3 1 v11 (i + 1) ((F ++ [(r : Int)]).map (Value.int .i64))) := by
            unfold Hid
            rw [List.map_append]; exact hown
          have HB11 : Hid (Below h w4 w11) := hB10.grown hgr (by have := hB10.size; have := HH.out; omega) (fun g hg => (hO10.lt g hg).1)
          clear hown hgr hO10 hB10 hs10 hB
          refine wpAny_one (i := 12) (by kernel_rfl) ?_
          refine wpOp_step rfl (fun K2 hK2 => ?_)
          go_simp
          refine hK2 _ _ ?_
          clear hK2 K2 e0 e10
          refine wpAny_done (by kernel_rfl) ?_ _
          have HFN : Hid (InR rs.length (F ++ [(r : Int)])) := fun z hz => by
            rcases List.mem_append.1 hz with g1 | g1
            · exact HFR.out z g1
            · obtain rfl : z = (r : Int) := by simpa using g1
              omega
          go_wp2_with fail
          exact ⟨⟨i + 1, F ++ [(r : Int)], by go_num, by omega, by rw [List.length_append, HFL.out]; rfl, HFN.out, HO11.out, HB11.out⟩, by simp [intOf]; omega⟩
      · have HEX : Hid (∃ F : List Int, InR rs.length F ∧ F.length ≤ 12 ∧ wr.ownsRow h 3 1 u11 F.length (F.map (Value.int .i64)) ∧ Below h w4 wr) := ⟨F, HFR.out, by rw [HFL.out]; exact hi12, by rw [HFL.out]; exact HO.out, HB.out⟩
        by_cases hlt : i < ys.length
        · have h12i : ¬ (i : Int) < 12 := by omega
          clear hgo
          go_wp2_with fail
          go_meet
          exact HEX.out
        · clear hgo
          go_wp2_with fail
          go_meet
          exact HEX.out
  case rest =>
    obtain ⟨F, hfr, hfl, ho, hb⟩ := hcut
    obtain ⟨FA, fk, rfl⟩ := own_shape ho
    have HFR := Lib.hid hfr
    have HSF := Lib.hid (own_seqN ho)
    have T5 := Lib.hid (T4.out.next (w' := wc) (by rw [HH.out]; exact hb))
    have HSP := Lib.hid (HS0.out.up (w' := wc) (by rw [HH.out]; exact hb))
    have B5 : Hid (Below w.heap.size w wc) := B4.out.trans (hb.mono (by have := B4.out.size; have := HH.out; omega))
    clear HO HB hfr ho hb HS0 T4 B4 HY HYS
    go_upto_block 0 with fail
    have BX := below_box wc #[.slice PA ks.length pk, .slice FA F.length fk] 57
    have HC : Hid (LC w q m a A2 k2 wc.heap.size rs #[.slice PA ks.length pk, .slice FA F.length fk] ks F (wc.alloc (.cells #[.slice PA ks.length pk, .slice FA F.length fk] 57))) :=
      ⟨T5.out.next BX, Blk.new _ _ _, ⟨PA, pk, rfl, HSP.out.up BX⟩, ⟨FA, fk, rfl, HSF.out.up BX⟩, below_next B5.out BX⟩
    generalize wc.alloc (.cells #[.slice PA ks.length pk, .slice FA F.length fk] 57) = W6 at *
    obtain ⟨c, hc⟩ : ∃ c, wc.heap.size = c := ⟨_, rfl⟩
    rw [hc] at HC
    simp only [hc]
    clear hc BX HSF HSP T5 B5
    go_wp2_with fail
    go_loopw [14] (fun x wr => ∃ nn : Nat, x = .int .i64 nn ∧ nn ≤ 2 ∧ LC w q m a A2 k2 c rs #[.slice PA ks.length pk, .slice FA F.length fk] ks F wr) (fun x _ => 2 - (intOf x).toNat)
    case atStart => exact ⟨0, rfl, by omega, HC.out⟩
    case round =>
      clear HC
      obtain ⟨nn, rfl, hn2, hlc⟩ := hrel
      have HC := Lib.hid hlc
      clear hlc
      by_cases hnn : nn < 2
      · have hnni : (nn : Int) < 2 := by omega
        obtain ⟨LA, lk, ls, hrow, hlr, hll, HCL⟩ : ∃ (LA : Option Addr) (lk : Nat) (ls : List Int), (#[Value.slice PA ks.length pk, .slice FA F.length fk] : Array Value)[nn]? = some (.slice LA ls.length lk) ∧ InR rs.length ls ∧ ls.length ≤ 4000 ∧ ∀ w', LC w q m a A2 k2 c rs #[.slice PA ks.length pk, .slice FA F.length fk] ks F w' → SeqN w' w'.heap.size LA ls := by
          rcases (show nn = 0 ∨ nn = 1 by omega) with e | e
          · subst e
            refine ⟨PA, pk, ks, rfl, HKR.out, hkl, fun w' h => ?_⟩
            obtain ⟨LA, lk, e1, h1⟩ := h.p0
            have e2 : PA = LA := by injection e1 with e1; injection e1
            rw [e2]; exact h1
          · subst e
            refine ⟨FA, fk, F, rfl, HFR.out, by omega, fun w' h => ?_⟩
            obtain ⟨LA, lk, e1, h1⟩ := h.p1
            have e2 : FA = LA := by injection e1 with e1; injection e1
            rw [e2]; exact h1
        have HROW := Lib.hid hrow
        have HLR := Lib.hid hlr
        have HSQ := Lib.hid HCL
        have HLC : Hid (LC w q m a A2 k2 c rs #[.slice PA ks.length pk, .slice FA F.length fk] ks F wr) := HC.out
        clear hrow hlr HCL HC
        have HCN : Hid (∀ w', LC w q m a A2 k2 c rs #[.slice PA ks.length pk, .slice FA F.length fk] ks F w' → w'.cell? ⟨c, nn, none⟩ = some (.slice LA ls.length lk)) := fun w' h => (h.c.cell nn).trans HROW.out
        have hn0 : (0 : Int) ≤ (nn : Int) := by omega
        go_wp2_with fail
        go_loopw [15, 16, 17, 18] (fun s15 s16 s17 x wr => ∃ (i : Nat) (fb : Bool) (mo : Int) (S : ByteArray), x = .int .i64 i ∧ i ≤ ls.length ∧ s15 = .bool fb ∧ s16 = .int .i64 mo ∧ s17 = .string S ∧ S.size ≤ 4 * i ∧ CtxI rs ls i fb mo S ∧ LC w q m a A2 k2 c rs #[.slice PA ks.length pk, .slice FA F.length fk] ks F wr) (fun _ _ _ x _ => ls.length - (intOf x).toNat)
        case atStart => exact ⟨0, true, 0, ⟨#[]⟩, rfl, Nat.zero_le _, rfl, rfl, rfl, Nat.le_refl _, CtxI.start, HLC.out⟩
        case round =>
          clear HLC
          obtain ⟨i, fb, mo, S, rfl, hi1, rfl, rfl, rfl, hsz, hci, hlc⟩ := hrel
          have HCI := Lib.hid hci
          have HC := Lib.hid hlc
          clear hci hlc
          have cn := HCN.out _ HC.out
          by_cases hlt : i < ls.length
          · have HI := Lib.hid hlt
            obtain ⟨lb, lo, rfl, hlb, hlc⟩ := HSQ.out _ HC.out (by omega)
            have l0 := hlc i hlt
            obtain ⟨hk0, hk1⟩ := HLR.out _ (List.getElem_mem hlt)
            have HDR : Hid (ls.drop i = ls[i]'hlt :: ls.drop (i + 1)) := List.drop_eq_getElem_cons hlt
            clear hlc
            generalize ls[i]'hlt = kz at *
            obtain ⟨kv, rfl⟩ : ∃ kv : Nat, kz = (kv : Int) := ⟨kz.toNat, by omega⟩
            have hkl2 : kv < rs.length := by omega
            have HRX := Lib.hid (rule_at hkl2)
            obtain ⟨rb, ro, rfl, hrb, hcc⟩ := HC.out.t.r (by omega)
            obtain ⟨A9, k9, e0, e1, e2, e3, e4, e5, _, hfit⟩ := hcc kv hkl2
            obtain ⟨z1, z2, z3⟩ := sound_sizes HG.out (List.getElem_mem hkl2)
            have hxl : 0 ≤ (rs[kv]'hkl2).l ∧ (rs[kv]'hkl2).l < 256 := by have := (masks HG.out HFT.out (List.getElem_mem hkl2)).1; omega
            have hxr : 0 ≤ (rs[kv]'hkl2).r ∧ (rs[kv]'hkl2).r < 256 := by have := (masks HG.out HFT.out (List.getElem_mem hkl2)).2.1; omega
            have t2 := HC.out.t.t.cell 2
            simp only [List.getElem?_toArray, List.getElem?_cons_zero, List.getElem?_cons_succ] at t2
            have hkn1 : (kv : Int) < (rs.length : Int) := by omega
            have hkn0 : (0 : Int) ≤ (kv : Int) := by omega
            have hii0 : (0 : Int) ≤ (i : Int) := by omega
            have hii1 : (i : Int) < (ls.length : Int) := by omega
            clear hcc z2 z3 hfit
            generalize rs[kv]'hkl2 = x at *
            go_upto_region 17 with fail
            have hqb : q < wr.heap.size := Blk.lt HC.out.t.t
            have hcb : c < wr.heap.size := Blk.lt HC.out.c
            have BZ := below_box wr #[.string ⟨#[]⟩, .slice none 0 0, .int .u8 0, .int .u8 0, .int .i64 0, .int .i64 0] 55
            have t2a := (BZ.cell (p := ⟨q, 2, none⟩) hqb).trans t2
            have cna := (BZ.cell (p := ⟨c, nn, none⟩) hcb).trans cn
            have l0a := (BZ.cell (p := ⟨lb, lo + i, none⟩) hlb).trans l0
            have e0a := (BZ.cell (p := ⟨rb, ro + kv * 6, none⟩) hrb).trans e0
            have e1a := (BZ.cell (p := ⟨rb, ro + kv * 6 + 1, none⟩) hrb).trans e1
            have e2a := (BZ.cell (p := ⟨rb, ro + kv * 6 + 2, none⟩) hrb).trans e2
            have e3a := (BZ.cell (p := ⟨rb, ro + kv * 6 + 3, none⟩) hrb).trans e3
            have e4a := (BZ.cell (p := ⟨rb, ro + kv * 6 + 4, none⟩) hrb).trans e4
            have e5a := (BZ.cell (p := ⟨rb, ro + kv * 6 + 5, none⟩) hrb).trans e5
            clear BZ
            go_region
            have BX2 := (below_box wr #[.string x.p, .slice A9 x.c.length k9, .int .u8 x.l, .int .u8 x.r, .int .i64 x.f, .int .i64 x.t] 55).drew
            have HC2 := Lib.hid (HC.out.next BX2)
            have HD2 : Hid (Blk (wr.alloc (.cells #[.string x.p, .slice A9 x.c.length k9, .int .u8 x.l, .int .u8 x.r, .int .i64 x.f, .int .i64 x.t] 55)).drew wr.heap.size 55 #[.string x.p, .slice A9 x.c.length k9, .int .u8 x.l, .int .u8 x.r, .int .i64 x.f, .int .i64 x.t]) := Blk.new wr _ _
            clear t2a cna l0a e0a e1a e2a e3a e4a e5a t2 cn l0 e0 e1 e2 e3 e4 e5 BX2 HC hqb hcb hlb hrb
            generalize (wr.alloc (.cells #[.string x.p, .slice A9 x.c.length k9, .int .u8 x.l, .int .u8 x.r, .int .i64 x.f, .int .i64 x.t] 55)).drew = W7 at *
            obtain ⟨d, hd⟩ : ∃ d, wr.heap.size = d := ⟨_, rfl⟩
            rw [hd] at HD2
            simp only [hd]
            clear hd
            go_wp2_with fail
            go_loopw [20, 21] (fun s20 y wr => ∃ (kk : Nat) (S2 : ByteArray), y = .int .i64 kk ∧ i + 1 ≤ kk ∧ kk ≤ ls.length ∧ s20 = .string S2 ∧ S2.size ≤ 4 * kk ∧ bytes S2 ++ prtL rs (ls.drop kk) = prtL rs (ls.drop (i + 1)) ∧ LC w q m a (some ⟨rb, ro, none⟩) k2 c rs #[.slice PA ks.length pk, .slice FA F.length fk] ks F wr ∧ Blk wr d 55 #[.string x.p, .slice A9 x.c.length k9, .int .u8 x.l, .int .u8 x.r, .int .i64 x.f, .int .i64 x.t]) (fun _ y _ => ls.length - (intOf y).toNat)
            case atStart => exact ⟨i + 1, ⟨#[]⟩, by go_num, Nat.le_refl _, HI.out, rfl, Nat.zero_le _, rfl, HC2.out, HD2.out⟩
            case round =>
              clear HC2 HD2
              obtain ⟨kk, S2, rfl, hk2, hk3, rfl, hs2, hpr, hlc, hbd⟩ := hrel
              have HPR := Lib.hid hpr
              have HC := Lib.hid hlc
              have HD := Lib.hid hbd
              clear hpr hlc hbd
              have cn := HCN.out _ HC.out
              by_cases hlk : kk < ls.length
              · have HK := Lib.hid hlk
                obtain ⟨hlb, l0⟩ := seqN_at (HSQ.out _ HC.out) hlk
                obtain ⟨hj0, hj1⟩ := HLR.out _ (List.getElem_mem hlk)
                have HDR2 : Hid (ls.drop kk = ls[kk]'hlk :: ls.drop (kk + 1)) := List.drop_eq_getElem_cons hlk
                generalize ls[kk]'hlk = kz at *
                obtain ⟨k5, rfl⟩ : ∃ k5 : Nat, kz = (k5 : Int) := ⟨kz.toNat, by omega⟩
                have hk5 : k5 < rs.length := by omega
                have HRX2 := Lib.hid (rule_at hk5)
                obtain ⟨hrb, A8, k8, e0, _⟩ := HC.out.rule hk5
                obtain ⟨y1, _, _⟩ := sound_sizes HG.out (List.getElem_mem hk5)
                have t2 := HC.out.t.t.cell 2
                simp only [List.getElem?_toArray, List.getElem?_cons_zero, List.getElem?_cons_succ] at t2
                have hk5n : (k5 : Int) < (rs.length : Int) := by omega
                have hk50 : (0 : Int) ≤ (k5 : Int) := by omega
                have hkk0 : (0 : Int) ≤ (kk : Int) := by omega
                have hkk1 : (kk : Int) < (ls.length : Int) := by omega
                generalize rs[k5]'hk5 = y at *
                have hsum : ¬ 9223372036854775807 < S2.size + y.p.size := by omega
                go_upto_region 21 with fail
                go_region
                have HCD := Lib.hid (HC.out.next (Below.refl _ wr).drew)
                have HDD : Hid (Blk wr.drew d 55 #[.string x.p, .slice A9 x.c.length k9, .int .u8 x.l, .int .u8 x.r, .int .i64 x.f, .int .i64 x.t]) := HD.out
                have HPN : Hid (bytes (S2 ++ y.p) ++ prtL rs (ls.drop (kk + 1)) = prtL rs (ls.drop (i + 1))) := by
                  unfold Hid
                  rw [← HPR.out, HDR2.out, bytes_append, List.append_assoc]
                  congr 1
                  unfold prtL
                  rw [List.flatMap_cons, HRX2.out]
                have HSN : Hid ((S2 ++ y.p).size ≤ 4 * (kk + 1)) := by unfold Hid; rw [ByteArray.size_append]; omega
                clear cn l0 e0 t2
                go_wp2_with fail
                exact ⟨⟨kk + 1, S2 ++ y.p, by go_num, by omega, HK.out, rfl, HSN.out, HPN.out, HCD.out, HDD.out⟩, by have := HK.out; simp [intOf]; omega⟩
              · have hke : kk = ls.length := by omega
                subst hke
                have HS2 : Hid (bytes S2 = prtL rs (ls.drop (i + 1))) := by
                  have := HPR.out
                  rw [List.drop_length] at this
                  unfold Hid
                  simpa [prtL] using this
                clear HPR
                obtain ⟨w8, rfl⟩ : ∃ w8 : World, w8 = wr := ⟨_, rfl⟩
                go_upto_if 106 with fail
                go_cut [22] from 106 to 112 (fun s22 wx => s22 = .int .i64 (lcl (bytes S)) ∧ wx = w8)
                case first =>
                  clear cn
                  by_cases hS : S.size = 0
                  · have HL : Hid (lcl (bytes S) = 0) := by unfold Hid; rw [bytes_zero.1 hS]; rfl
                    go_wp2_with fail
                    go_meet
                    exact ⟨by rw [HL.out], rfl⟩
                  · have hS0 : (0 : Int) < (S.size : Int) := by omega
                    go_wp2_with fail
                    have hlast : lcl (bytes S) = clsI (((S[S.size - 1]'(by omega)).toNat : Nat) : Int) := by
                      rw [← byte_last hS]
                      unfold byteI
                      rw [List.getD_eq_getElem?_getD, bytes_at S (S.size - 1) (by omega)]
                      rfl
                    have HL := Lib.hid hlast
                    have hb8 := bytes_lt S _ (List.mem_of_getElem? (bytes_at S (S.size - 1) (by omega)))
                    refine (rClass_any _ (by omega) (by omega) _).mono ?_
                    rintro e w' ⟨rfl, rfl⟩
                    rw [← hlast]
                    clear hlast
                    go_wp2_with fail
                    go_meet
                    exact ⟨rfl, rfl⟩
                case rest =>
                  obtain ⟨rfl, rfl⟩ := hcut
                  go_upto_if 115 with fail
                  obtain ⟨w9, rfl⟩ : ∃ w9 : World, w9 = wc := ⟨_, rfl⟩
                  go_cut [23] from 115 to 118 (fun s23 wx => s23 = .int .i64 (fcl (bytes S2)) ∧ wx = w9)
                  case first =>
                    clear cn
                    by_cases hS : S2.size = 0
                    · have HL : Hid (fcl (bytes S2) = 0) := by unfold Hid; rw [bytes_zero.1 hS]; rfl
                      go_wp2_with fail
                      go_meet
                      exact ⟨by rw [HL.out], rfl⟩
                    · have hS0 : (0 : Int) < (S2.size : Int) := by omega
                      have hS1 : 0 < S2.size := by omega
                      go_wp2_with fail
                      have hlast : fcl (bytes S2) = clsI (((S2[0]'(by omega)).toNat : Nat) : Int) := by
                        rw [← byte_first hS]
                        unfold byteI
                        rw [List.getD_eq_getElem?_getD, bytes_at S2 0 (by omega)]
                        rfl
                      have hb8 := bytes_lt S2 _ (List.mem_of_getElem? (bytes_at S2 0 (by omega)))
                      refine (rClass_any _ (by omega) (by omega) _).mono ?_
                      rintro e w' ⟨rfl, rfl⟩
                      rw [← hlast]
                      clear hlast
                      go_wp2_with fail
                      go_meet
                      exact ⟨rfl, rfl⟩
                  case rest =>
                    obtain ⟨rfl, rfl⟩ := hcut
                    clear cn
                    have HST := Lib.hid (HCI.out.step HDR.out HRX.out)
                    rw [← HS2.out] at HST
                    have x0 := HD.out.cell 0
                    have x2 := HD.out.cell 2
                    have x3 := HD.out.cell 3
                    have x4 := HD.out.cell 4
                    have x5 := HD.out.cell 5
                    simp only [List.getElem?_toArray, List.getElem?_cons_zero, List.getElem?_cons_succ] at x0 x2 x3 x4 x5
                    have HSN : Hid ((S ++ x.p).size ≤ 4 * (i + 1)) := by unfold Hid; rw [ByteArray.size_append]; omega
                    have hsum : ¬ 9223372036854775807 < S.size + x.p.size := by omega
                    obtain ⟨q1, hq1⟩ : ∃ q1, bitB x.l (lcl (bytes S)) = q1 := ⟨_, rfl⟩
                    obtain ⟨q2, hq2⟩ : ∃ q2, bitB x.r (fcl (bytes S2)) = q2 := ⟨_, rfl⟩
                    have HQ1 := Lib.hid hq1
                    have HQ2 := Lib.hid hq2
                    rw [hq1, hq2] at HST
                    clear hq1 hq2 HS2
                    cases fb with
                    | false =>
                      go_wp2_with fail
                      exact ⟨⟨i + 1, false, x.t, S ++ x.p, by go_num, HI.out, rfl, rfl, rfl, HSN.out, HST.out, HC.out⟩, by have := HI.out; simp [intOf]; omega⟩
                    | true =>
                      by_cases hf : x.f = mo
                      · have hfb : (x.f == mo) = true := by rw [hf]; exact beq_self_eq_true _
                        rw [decide_eq_true hf] at HST
                        clear hf
                        go_wp2_with fail
                        refine (rBit_any x.l _ hxl _).mono ?_
                        rintro e w' ⟨rfl, rfl⟩
                        rw [HQ1.out]
                        cases q1 with
                        | false =>
                          go_wp2_with fail
                          exact ⟨⟨i + 1, false, x.t, S ++ x.p, by go_num, HI.out, rfl, rfl, rfl, HSN.out, HST.out, HC.out⟩, by have := HI.out; simp [intOf]; omega⟩
                        | true =>
                          go_wp2_with fail
                          refine (rBit_any x.r _ hxr _).mono ?_
                          rintro e w' ⟨rfl, rfl⟩
                          rw [HQ2.out]
                          cases q2 with
                          | false =>
                            go_wp2_with fail
                            exact ⟨⟨i + 1, false, x.t, S ++ x.p, by go_num, HI.out, rfl, rfl, rfl, HSN.out, HST.out, HC.out⟩, by have := HI.out; simp [intOf]; omega⟩
                          | true =>
                            go_wp2_with fail
                            exact ⟨⟨i + 1, true, x.t, S ++ x.p, by go_num, HI.out, rfl, rfl, rfl, HSN.out, HST.out, HC.out⟩, by have := HI.out; simp [intOf]; omega⟩
                      · have hfb : (x.f == mo) = false := by rw [beq_eq_false_iff_ne]; exact hf
                        rw [decide_eq_false hf] at HST
                        clear hf
                        go_wp2_with fail
                        exact ⟨⟨i + 1, false, x.t, S ++ x.p, by go_num, HI.out, rfl, rfl, rfl, HSN.out, HST.out, HC.out⟩, by have := HI.out; simp [intOf]; omega⟩
          · have hie : i = ls.length := by omega
            subst hie
            have hfin : fb = ctxL rs 0 [] ls ∧ mo = modeL rs 0 ls := by
              obtain ⟨h1, h2⟩ := HCI.out
              rw [List.drop_length] at h1 h2
              exact ⟨by simpa [ctxL] using h1, h2⟩
            have hok := ok_ctx HG.out HFT.out HLR.out
            rw [← hfin.1, ← hfin.2] at hok
            have HOK := Lib.hid hok
            have hqb : q < wr.heap.size := Blk.lt HC.out.t.t
            have hcb : c < wr.heap.size := Blk.lt HC.out.c
            have t0 := HC.out.t.t.cell 0
            have t1 := HC.out.t.t.cell 1
            have t2 := HC.out.t.t.cell 2
            simp only [List.getElem?_toArray, List.getElem?_cons_zero, List.getElem?_cons_succ] at t0 t1 t2
            clear hok hfin HCI
            cases fb with
            | false =>
              have hfd := fun z w => runV_ok a rs ls z w
              go_upto_region 30 with fail
              refine wp_region_head 13 0 (by kernel_rfl) (fun y => (Value.agg #[Value.int IntKind.u8 bs, Value.int IntKind.u8 dr, Value.slice A n k]) :: (Value.slice XA xs.length xk) :: (Value.slice YA ys.length yk) :: (Value.pointer (some ⟨g, 0, none⟩)) :: undef :: undef :: u6 :: (Value.bool true) :: (Value.pointer (some ⟨q, 0, none⟩)) :: (Value.slice PA ks.length pk) :: (Value.bool pb) :: (Value.slice FA F.length fk) :: u12 :: (Value.pointer (some ⟨c, 0, none⟩)) :: (Value.int IntKind.i64 ↑nn) :: (Value.bool false) :: (Value.int IntKind.i64 mo) :: (Value.string S) :: (Value.int IntKind.i64 ↑ls.length) :: u19 :: u20 :: u21 :: u22 :: u23 :: (Value.bool true) :: (Value.agg #[Value.int IntKind.u8 bs, Value.int IntKind.u8 dr, Value.slice A n k]) :: (Value.agg #[Value.int IntKind.i64 m, Value.int IntKind.u8 a, Value.slice A2 rs.length k2]) :: (Value.tuple #[Value.slice PA ks.length pk, Value.bool pb]) :: (Value.agg #[Value.int IntKind.i64 m, Value.int IntKind.u8 a, Value.slice A2 rs.length k2]) :: (Value.slice XA xs.length xk) :: (Value.tuple #[Value.slice PA ks.length pk, Value.bool pb]) :: (Value.slice PA ks.length pk) :: (Value.bool pb) :: (Value.slice (some ⟨h, 0, none⟩) 0 0) :: u34 :: u35 :: u36 :: u37 :: u38 :: u39 :: u40 :: u41 :: u42 :: u43 :: u44 :: u45 :: u46 :: u47 :: u48 :: u49 :: u50 :: u51 :: u52 :: u53 :: u54 :: u55 :: (Value.slice PA ks.length pk) :: (Value.slice FA F.length fk) :: (Value.agg #[Value.slice PA ks.length pk, Value.slice FA F.length fk]) :: (Value.int IntKind.i64 ↑nn) :: (Value.bool true) :: u61 :: u62 :: (Value.int IntKind.i64 ↑ls.length) :: (Value.int IntKind.i64 ↑nn) :: (Value.pointer (some ⟨c, nn, none⟩)) :: (Value.slice LA ls.length lk) :: (Value.int IntKind.i64 ↑ls.length) :: (Value.bool false) :: u69 :: u70 :: u71 :: u72 :: u73 :: u74 :: u75 :: u76 :: u77 :: u78 :: u79 :: u80 :: u81 :: u82 :: u83 :: u84 :: u85 :: u86 :: u87 :: u88 :: u89 :: u90 :: u91 :: u92 :: u93 :: u94 :: u95 :: u96 :: u97 :: u98 :: u99 :: u100 :: u101 :: u102 :: u103 :: u104 :: u105 :: u106 :: u107 :: u108 :: u109 :: u110 :: u111 :: u112 :: u113 :: u114 :: u115 :: u116 :: u117 :: u118 :: u119 :: u120 :: u121 :: u122 :: u123 :: u124 :: u125 :: u126 :: u127 :: u128 :: u129 :: u130 :: u131 :: u132 :: u133 :: u134 :: u135 :: u136 :: u137 :: u138 :: u139 :: u140 :: u141 :: u142 :: u143 :: y 0 :: y 1 :: y 2 :: y 3 :: y 4 :: y 5 :: y 6 :: y 7 :: y 8 :: y 9 :: y 10 :: y 11 :: y 12 :: u157 :: undef :: [])
                (fun _ w' => Below wr.heap.size wr w') (phiP [pv (.agg #[.int .i64 m, .int .u8 a, .slice A2 rs.length k2]), pv (.int .i64 nn), pv (.pointer (some ⟨c, nn, none⟩)), pv (.slice LA ls.length lk), pe (fun z : Option Addr × Nat => runV a rs ls z), pv (.bool (runOk a rs ls)), pv (.bool false), pv (.bool false), pv (undef), pv (undef), pv (undef), pv (undef), pv (.bool false)]) (fun i => match i with | 0 => u144 | 1 => u145 | 2 => u146 | 3 => u147 | 4 => u148 | 5 => u149 | 6 => u150 | 7 => u151 | 8 => u152 | 9 => u153 | 10 => u154 | 11 => u155 | 12 => u156 | _ => undef)
                (by kernel_rfl) (by kernel_rfl) (by kernel_rfl) (by kernel_rfl) (fun i v wa wb h hb => phiP_keep (stay_cons (pv_st) (stay_cons (pv_st) (stay_cons (pv_st) (stay_cons (pv_st) (stay_cons (pe_st) (stay_cons (pv_st) (stay_cons (pv_st) (stay_cons (pv_st) (stay_cons (pv_st) (stay_cons (pv_st) (stay_cons (pv_st) (stay_cons (pv_st) (stay_cons (pv_st) stay_nil))))))))))))) h hb) (Below.refl _ _).drew [0, 1, 2, 3, 4, 5, 6, 7, 8, 9, 10, 11, 12] (by kernel_rfl) ?_ ?_
              · refine allCons ?_ (allCons ?_ (allCons ?_ (allCons ?_ (allCons ?_ (allCons ?_ (allCons ?_ (allCons ?_ (allCons ?_ (allCons ?_ (allCons ?_ (allCons ?_ (allCons ?_ (allNil)))))))))))))
                all_goals intro y w10 K hS hd hK
                · have q0 := (hS.cell (p := ⟨q, 0, none⟩) hqb).trans t0
                  have q1 := (hS.cell (p := ⟨q, 1, none⟩) hqb).trans t1
                  have q2 := (hS.cell (p := ⟨q, 2, none⟩) hqb).trans t2
                  refine wpOp_step rfl (fun K2 hK2 => ?_)
                  go_simp
                  exact hK2 _ _ (hK _ _ hS rfl (Below.refl _ _))
                · refine wpOp_step rfl (fun K2 hK2 => ?_)
                  go_simp
                  exact hK2 _ _ (hK _ _ hS rfl (Below.refl _ _))
                · have e1 : y 1 = _ := hd 1 rfl
                  obtain ⟨y, rfl⟩ := upd_at (y := y) (i := 1) e1
                  dsimp [upd]
                  refine wpOp_step rfl (fun K2 hK2 => ?_)
                  go_simp
                  exact hK2 _ _ (hK _ _ hS rfl (Below.refl _ _))
                · have e2 : y 2 = _ := hd 2 rfl
                  obtain ⟨y, rfl⟩ := upd_at (y := y) (i := 2) e2
                  dsimp [upd]
                  have q0 := (hS.cell (p := ⟨c, nn, none⟩) hcb).trans cn
                  refine wpOp_step rfl (fun K2 hK2 => ?_)
                  go_simp
                  exact hK2 _ _ (hK _ _ hS rfl (Below.refl _ _))
                · have e0 : y 0 = _ := hd 0 rfl
                  have e3 : y 3 = _ := hd 3 rfl
                  obtain ⟨y, rfl⟩ := upd_at (y := y) (i := 0) e0
                  obtain ⟨y, rfl⟩ := upd_at (y := y) (i := 3) e3
                  dsimp [upd]
                  refine wpOp_step rfl (fun K2 hK2 => ?_)
                  go_simp
                  refine (run_any m a A2 rs.length k2 rs LA ls.length lk ls w10 rfl (HC.out.next hS).t.r HG.out hmax hm8 ha rfl (HSQ.out _ (HC.out.next hS)) (by omega)).mono ?_
                  rintro e' w2 ⟨CA, ck, rfl, _, hb⟩
                  exact hK2 _ _ (hK _ _ (below_next hS hb) ⟨(CA, ck), rfl⟩ hb)
                · obtain ⟨⟨CA, ck⟩, e4⟩ := hd 4 rfl
                  obtain ⟨y, rfl⟩ := upd_at (y := y) (i := 4) e4
                  dsimp [upd]
                  refine wpOp_step rfl (fun K2 hK2 => ?_)
                  go_simp
                  exact hK2 _ _ (hK _ _ hS rfl (Below.refl _ _))
                · refine wpOp_step rfl (fun K2 hK2 => ?_)
                  go_simp
                  exact hK2 _ _ (hK _ _ hS rfl (Below.refl _ _))
                · have e6 : y 6 = _ := hd 6 rfl
                  obtain ⟨y, rfl⟩ := upd_at (y := y) (i := 6) e6
                  dsimp [upd]
                  refine wpOp_step rfl (fun K2 hK2 => ?_)
                  go_simp
                  exact hK2 _ _ (hK _ _ hS rfl (Below.refl _ _))
                · have e7 : y 7 = _ := hd 7 rfl
                  obtain ⟨y, rfl⟩ := upd_at (y := y) (i := 7) e7
                  dsimp [upd]
                  refine wpOp_step rfl (fun K2 hK2 => ?_)
                  go_simp
                  exact hK2 _ _ (hK _ _ hS rfl (Below.refl _ _))
                · have e7 : y 7 = _ := hd 7 rfl
                  obtain ⟨y, rfl⟩ := upd_at (y := y) (i := 7) e7
                  dsimp [upd]
                  refine wpOp_step rfl (fun K2 hK2 => ?_)
                  go_simp
                  exact hK2 _ _ (hK _ _ hS rfl (Below.refl _ _))
                · have e7 : y 7 = _ := hd 7 rfl
                  obtain ⟨y, rfl⟩ := upd_at (y := y) (i := 7) e7
                  dsimp [upd]
                  refine wpOp_step rfl (fun K2 hK2 => ?_)
                  go_simp
                  exact hK2 _ _ (hK _ _ hS rfl (Below.refl _ _))
                · have e7 : y 7 = _ := hd 7 rfl
                  obtain ⟨y, rfl⟩ := upd_at (y := y) (i := 7) e7
                  dsimp [upd]
                  refine wpOp_step rfl (fun K2 hK2 => ?_)
                  go_simp
                  exact hK2 _ _ (hK _ _ hS rfl (Below.refl _ _))
                · have e7 : y 7 = _ := hd 7 rfl
                  obtain ⟨y, rfl⟩ := upd_at (y := y) (i := 7) e7
                  dsimp [upd]
                  refine wpOp_step rfl (fun K2 hK2 => ?_)
                  go_simp
                  exact hK2 _ _ (hK _ _ hS rfl (Below.refl _ _))
              · intro y w10 f hS hd
                have e5 : y 5 = _ := hd 5 (by decide)
                have e12 : y 12 = _ := hd 12 (by decide)
                clear hd
                have HC10 := Lib.hid (HC.out.next hS)
                obtain ⟨y, rfl⟩ := upd_at (y := y) (i := 5) e5
                obtain ⟨y, rfl⟩ := upd_at (y := y) (i := 12) e12
                dsimp [upd]
                have hne : runOk a rs ls = false := by rw [HOK.out]; rfl
                refine wpAny_one (i := 13) (by kernel_rfl) ?_
                refine wpOp_step rfl (fun K2 hK2 => ?_)
                go_simp
                refine hK2 _ _ ?_
                clear hK2 K2 e5 e12
                refine wpAny_done (by kernel_rfl) ?_ _
                clear t0 t1 t2 cn
                go_wp2_with fail
                exact ⟨⟨nn + 1, by go_num, by omega, HC10.out⟩, by simp [intOf]; omega⟩
            | true =>
              have hfd := fun z w => runV_ok a rs ls z w
              go_upto_region 30 with fail
              refine wp_region_head 13 0 (by kernel_rfl) (fun y => (Value.agg #[Value.int IntKind.u8 bs, Value.int IntKind.u8 dr, Value.slice A n k]) :: (Value.slice XA xs.length xk) :: (Value.slice YA ys.length yk) :: (Value.pointer (some ⟨g, 0, none⟩)) :: undef :: undef :: u6 :: (Value.bool true) :: (Value.pointer (some ⟨q, 0, none⟩)) :: (Value.slice PA ks.length pk) :: (Value.bool pb) :: (Value.slice FA F.length fk) :: u12 :: (Value.pointer (some ⟨c, 0, none⟩)) :: (Value.int IntKind.i64 ↑nn) :: (Value.bool true) :: (Value.int IntKind.i64 mo) :: (Value.string S) :: (Value.int IntKind.i64 ↑ls.length) :: u19 :: u20 :: u21 :: u22 :: u23 :: (Value.bool true) :: (Value.agg #[Value.int IntKind.u8 bs, Value.int IntKind.u8 dr, Value.slice A n k]) :: (Value.agg #[Value.int IntKind.i64 m, Value.int IntKind.u8 a, Value.slice A2 rs.length k2]) :: (Value.tuple #[Value.slice PA ks.length pk, Value.bool pb]) :: (Value.agg #[Value.int IntKind.i64 m, Value.int IntKind.u8 a, Value.slice A2 rs.length k2]) :: (Value.slice XA xs.length xk) :: (Value.tuple #[Value.slice PA ks.length pk, Value.bool pb]) :: (Value.slice PA ks.length pk) :: (Value.bool pb) :: (Value.slice (some ⟨h, 0, none⟩) 0 0) :: u34 :: u35 :: u36 :: u37 :: u38 :: u39 :: u40 :: u41 :: u42 :: u43 :: u44 :: u45 :: u46 :: u47 :: u48 :: u49 :: u50 :: u51 :: u52 :: u53 :: u54 :: u55 :: (Value.slice PA ks.length pk) :: (Value.slice FA F.length fk) :: (Value.agg #[Value.slice PA ks.length pk, Value.slice FA F.length fk]) :: (Value.int IntKind.i64 ↑nn) :: (Value.bool true) :: u61 :: u62 :: (Value.int IntKind.i64 ↑ls.length) :: (Value.int IntKind.i64 ↑nn) :: (Value.pointer (some ⟨c, nn, none⟩)) :: (Value.slice LA ls.length lk) :: (Value.int IntKind.i64 ↑ls.length) :: (Value.bool false) :: u69 :: u70 :: u71 :: u72 :: u73 :: u74 :: u75 :: u76 :: u77 :: u78 :: u79 :: u80 :: u81 :: u82 :: u83 :: u84 :: u85 :: u86 :: u87 :: u88 :: u89 :: u90 :: u91 :: u92 :: u93 :: u94 :: u95 :: u96 :: u97 :: u98 :: u99 :: u100 :: u101 :: u102 :: u103 :: u104 :: u105 :: u106 :: u107 :: u108 :: u109 :: u110 :: u111 :: u112 :: u113 :: u114 :: u115 :: u116 :: u117 :: u118 :: u119 :: u120 :: u121 :: u122 :: u123 :: u124 :: u125 :: u126 :: u127 :: u128 :: u129 :: u130 :: u131 :: u132 :: u133 :: u134 :: u135 :: u136 :: u137 :: u138 :: u139 :: u140 :: u141 :: u142 :: u143 :: y 0 :: y 1 :: y 2 :: y 3 :: y 4 :: y 5 :: y 6 :: y 7 :: y 8 :: y 9 :: y 10 :: y 11 :: y 12 :: u157 :: undef :: [])
                (fun _ w' => Below wr.heap.size wr w') (phiP [pv (.agg #[.int .i64 m, .int .u8 a, .slice A2 rs.length k2]), pv (.int .i64 nn), pv (.pointer (some ⟨c, nn, none⟩)), pv (.slice LA ls.length lk), pe (fun z : Option Addr × Nat => runV a rs ls z), pv (.bool (runOk a rs ls)), pv (.bool true), pv (.bool true), pv (.pointer (some ⟨q, 1, none⟩)), pv (.int .u8 a), pv (.int .i64 mo), pv (.bool (bitB a mo)), pv (.bool (bitB a mo))]) (fun i => match i with | 0 => u144 | 1 => u145 | 2 => u146 | 3 => u147 | 4 => u148 | 5 => u149 | 6 => u150 | 7 => u151 | 8 => u152 | 9 => u153 | 10 => u154 | 11 => u155 | 12 => u156 | _ => undef)
                (by kernel_rfl) (by kernel_rfl) (by kernel_rfl) (by kernel_rfl) (fun i v wa wb h hb => phiP_keep (stay_cons (pv_st) (stay_cons (pv_st) (stay_cons (pv_st) (stay_cons (pv_st) (stay_cons (pe_st) (stay_cons (pv_st) (stay_cons (pv_st) (stay_cons (pv_st) (stay_cons (pv_st) (stay_cons (pv_st) (stay_cons (pv_st) (stay_cons (pv_st) (stay_cons (pv_st) stay_nil))))))))))))) h hb) (Below.refl _ _).drew [0, 1, 2, 3, 4, 5, 6, 7, 8, 9, 10, 11, 12] (by kernel_rfl) ?_ ?_
              · refine allCons ?_ (allCons ?_ (allCons ?_ (allCons ?_ (allCons ?_ (allCons ?_ (allCons ?_ (allCons ?_ (allCons ?_ (allCons ?_ (allCons ?_ (allCons ?_ (allCons ?_ (allNil)))))))))))))
                all_goals intro y w10 K hS hd hK
                · have q0 := (hS.cell (p := ⟨q, 0, none⟩) hqb).trans t0
                  have q1 := (hS.cell (p := ⟨q, 1, none⟩) hqb).trans t1
                  have q2 := (hS.cell (p := ⟨q, 2, none⟩) hqb).trans t2
                  refine wpOp_step rfl (fun K2 hK2 => ?_)
                  go_simp
                  exact hK2 _ _ (hK _ _ hS rfl (Below.refl _ _))
                · refine wpOp_step rfl (fun K2 hK2 => ?_)
                  go_simp
                  exact hK2 _ _ (hK _ _ hS rfl (Below.refl _ _))
                · have e1 : y 1 = _ := hd 1 rfl
                  obtain ⟨y, rfl⟩ := upd_at (y := y) (i := 1) e1
                  dsimp [upd]
                  refine wpOp_step rfl (fun K2 hK2 => ?_)
                  go_simp
                  exact hK2 _ _ (hK _ _ hS rfl (Below.refl _ _))
                · have e2 : y 2 = _ := hd 2 rfl
                  obtain ⟨y, rfl⟩ := upd_at (y := y) (i := 2) e2
                  dsimp [upd]
                  have q0 := (hS.cell (p := ⟨c, nn, none⟩) hcb).trans cn
                  refine wpOp_step rfl (fun K2 hK2 => ?_)
                  go_simp
                  exact hK2 _ _ (hK _ _ hS rfl (Below.refl _ _))
                · have e0 : y 0 = _ := hd 0 rfl
                  have e3 : y 3 = _ := hd 3 rfl
                  obtain ⟨y, rfl⟩ := upd_at (y := y) (i := 0) e0
                  obtain ⟨y, rfl⟩ := upd_at (y := y) (i := 3) e3
                  dsimp [upd]
                  refine wpOp_step rfl (fun K2 hK2 => ?_)
                  go_simp
                  refine (run_any m a A2 rs.length k2 rs LA ls.length lk ls w10 rfl (HC.out.next hS).t.r HG.out hmax hm8 ha rfl (HSQ.out _ (HC.out.next hS)) (by omega)).mono ?_
                  rintro e' w2 ⟨CA, ck, rfl, _, hb⟩
                  exact hK2 _ _ (hK _ _ (below_next hS hb) ⟨(CA, ck), rfl⟩ hb)
                · obtain ⟨⟨CA, ck⟩, e4⟩ := hd 4 rfl
                  obtain ⟨y, rfl⟩ := upd_at (y := y) (i := 4) e4
                  dsimp [upd]
                  refine wpOp_step rfl (fun K2 hK2 => ?_)
                  go_simp
                  exact hK2 _ _ (hK _ _ hS rfl (Below.refl _ _))
                · refine wpOp_step rfl (fun K2 hK2 => ?_)
                  go_simp
                  exact hK2 _ _ (hK _ _ hS rfl (Below.refl _ _))
                · have e6 : y 6 = _ := hd 6 rfl
                  obtain ⟨y, rfl⟩ := upd_at (y := y) (i := 6) e6
                  dsimp [upd]
                  refine wpOp_step rfl (fun K2 hK2 => ?_)
                  go_simp
                  exact hK2 _ _ (hK _ _ hS rfl (Below.refl _ _))
                · have e7 : y 7 = _ := hd 7 rfl
                  obtain ⟨y, rfl⟩ := upd_at (y := y) (i := 7) e7
                  dsimp [upd]
                  refine wpOp_step rfl (fun K2 hK2 => ?_)
                  go_simp
                  exact hK2 _ _ (hK _ _ hS rfl (Below.refl _ _))
                · have e7 : y 7 = _ := hd 7 rfl
                  have e8 : y 8 = _ := hd 8 rfl
                  obtain ⟨y, rfl⟩ := upd_at (y := y) (i := 7) e7
                  obtain ⟨y, rfl⟩ := upd_at (y := y) (i := 8) e8
                  dsimp [upd]
                  have q1 := (hS.cell (p := ⟨q, 1, none⟩) hqb).trans t1
                  refine wpOp_step rfl (fun K2 hK2 => ?_)
                  go_simp
                  exact hK2 _ _ (hK _ _ hS rfl (Below.refl _ _))
                · have e7 : y 7 = _ := hd 7 rfl
                  obtain ⟨y, rfl⟩ := upd_at (y := y) (i := 7) e7
                  dsimp [upd]
                  refine wpOp_step rfl (fun K2 hK2 => ?_)
                  go_simp
                  exact hK2 _ _ (hK _ _ hS rfl (Below.refl _ _))
                · have e7 : y 7 = _ := hd 7 rfl
                  have e9 : y 9 = _ := hd 9 rfl
                  have e10 : y 10 = _ := hd 10 rfl
                  obtain ⟨y, rfl⟩ := upd_at (y := y) (i := 7) e7
                  obtain ⟨y, rfl⟩ := upd_at (y := y) (i := 9) e9
                  obtain ⟨y, rfl⟩ := upd_at (y := y) (i := 10) e10
                  dsimp [upd]
                  refine wpOp_step rfl (fun K2 hK2 => ?_)
                  go_simp
                  refine (rBit_any a mo ha w10).mono ?_
                  rintro e' w2 ⟨rfl, rfl⟩
                  exact hK2 _ _ (hK _ _ hS rfl (Below.refl _ _))
                · have e7 : y 7 = _ := hd 7 rfl
                  have e11 : y 11 = _ := hd 11 rfl
                  obtain ⟨y, rfl⟩ := upd_at (y := y) (i := 7) e7
                  obtain ⟨y, rfl⟩ := upd_at (y := y) (i := 11) e11
                  dsimp [upd]
                  refine wpOp_step rfl (fun K2 hK2 => ?_)
                  go_simp
                  exact hK2 _ _ (hK _ _ hS rfl (Below.refl _ _))
              · intro y w10 f hS hd
                have e5 : y 5 = _ := hd 5 (by decide)
                have e12 : y 12 = _ := hd 12 (by decide)
                clear hd
                have HC10 := Lib.hid (HC.out.next hS)
                obtain ⟨y, rfl⟩ := upd_at (y := y) (i := 5) e5
                obtain ⟨y, rfl⟩ := upd_at (y := y) (i := 12) e12
                dsimp [upd]
                have hne : runOk a rs ls = bitB a mo := by rw [HOK.out]; simp
                refine wpAny_one (i := 13) (by kernel_rfl) ?_
                refine wpOp_step rfl (fun K2 hK2 => ?_)
                go_simp
                refine hK2 _ _ ?_
                clear hK2 K2 e5 e12
                refine wpAny_done (by kernel_rfl) ?_ _
                clear t0 t1 t2 cn
                go_wp2_with fail
                exact ⟨⟨nn + 1, by go_num, by omega, HC10.out⟩, by simp [intOf]; omega⟩
      · go_wp2_with fail
        go_ret
        exact ⟨rfl, HC.out.b⟩
end Go.Proofs.Ytkjlpmkhifjmdaa

/-! law03.AutomatonContexts: the row. -/
namespace Go.Proofs.Ytkjlpmkhifjmdaa
open Go.ChangeShapes Go.WideShapes Go.ChangeAt Go.WideMaps Go.WideElems Go.RowKit

theorem own : ownKnob Try.prog.godebug = none := by kernel_rfl
theorem laidOut : laidOutB Try.prog = true := by kernel_rfl
set_option maxRecDepth 100000 in
theorem lifted (os : Os) (started : os.Started) (H : Type) (enc : TypeId × Value → H) :
    ReturnsInHanded {} Try.checked os 5 .any (Rows.automatonContextsSpec.pre6 enc Try.prog Try.f5 Rows.automatonContextsRow.domain false) (Rows.automatonContextsSpec.post enc Try.prog Try.f5 false true false false) := by
  refine returnsInHanded_of_change (C := Try.checked) own started (by kernel_rfl) Try.func5
    (ChangeSpec.witness6 (enc := enc) (C := Try.checked) false ⟨#[], #[.agg #[.int .u8 0, .int .u8 0, .slice none 0 0], .slice none 0 0, .slice none 0 0], []⟩ 8 (by kernel_rfl) (by kernel_rfl) (by kernel_rfl) (by kernel_rfl)) ?_
  intro W base args ds gs before hval0 hW hcnd _
  have hval : ∀ (j : Nat) t v, Try.f5.params[j]? = some t → args[j]? = some v → Value.okWide Try.prog W .any base t v := hval0
  have hW' := hW
  obtain ⟨p, q, hA0, hV, rfl, hfz, hnd⟩ := hW
  have hA : DataW.TrodAll enc Try.prog W 0 (fun _ => true) true Try.f5.params.toList args.toList ds p := hA0
  rw [Try.params5] at hA hval
  obtain ⟨v0, vs0, d0, ds0, p0, q0, hargs, rfl, rfl, h0, r0⟩ := trodAll_cons hA
  obtain ⟨v1, vs1, d1, ds1, p1, q1, rfl, rfl, rfl, h1, r1⟩ := trodAll_cons r0
  obtain ⟨v2, vs2, d2, ds2, p2, q2, rfl, rfl, rfl, h2, r2⟩ := trodAll_cons r1
  obtain ⟨rfl, rfl, rfl⟩ := trodAll_nil r2
  obtain rfl : args = #[v0, v1, v2] := by cases args; simp_all
  obtain ⟨rfl, rfl⟩ := trodVars_none hV
  have k0 := h0
  have lt0 : ∀ x ∈ p0, x.block < W.heap.size := by obtain ⟨m, hm⟩ := k0; exact DataW.trod_lt m _ _ _ hm
  have k1 := h1
  have lt1 : ∀ x ∈ p1, x.block < W.heap.size := by obtain ⟨m, hm⟩ := k1; exact DataW.trod_lt m _ _ _ hm
  have k2 := h2
  have lt2 : ∀ x ∈ p2, x.block < W.heap.size := by obtain ⟨m, hm⟩ := k2; exact DataW.trod_lt m _ _ _ hm
  obtain ⟨bs, dr, A, n, k, rfl, hr0, hbs, hdr⟩ := open_raw (hval 0 24 v0 rfl rfl) h0
  obtain ⟨XA1, xk1, xs1, rfl, hx1, hz1⟩ := open_bytesL (hval 1 50 v1 rfl rfl) h1
  obtain ⟨XA2, xk2, xs2, rfl, hx2, hz2⟩ := open_bytesL (hval 2 50 v2 rfl rfl) h2
  clear hA0 hval0
  refine (walk_ctx bs dr A n k XA1 xk1 xs1 XA2 xk2 xs2 W hr0 hbs hdr hx1 hz1 hx2 hz2).mono fun e W' ⟨he, bel⟩ => ?_
  subst he
  exact ⟨_, rfl, _, _, _, [], _, [], hW', trodAll_mk1 (shut_bool Try.underlying4 _), (trodAll_cons_mk (Below.trod laidOut (by kernel_rfl) (of_decide_eq_true (by kernel_rfl)) k0 bel lt0) (trodAll_cons_mk (Below.trod laidOut (by kernel_rfl) (of_decide_eq_true (by kernel_rfl)) k1 bel lt1) (trodAll_cons_mk (Below.trod laidOut (by kernel_rfl) (of_decide_eq_true (by kernel_rfl)) k2 bel lt2) trodAll_mk0))), rfl, bel.frame _, fun h => by cases h⟩

theorem over : Rows.automatonContextsRow.holds Try.pinned (OpenSpec.ofChange Rows.automatonContextsSpec) :=
  OpenClaim.holds_of_wide 5 Try.f5 rfl rfl rfl rfl rfl rfl rfl ⟨rfl, rfl, rfl, rfl, rfl⟩ rfl rfl rfl rfl rfl (by kernel_rfl) Try.func5 (by kernel_rfl)
    (of_decide_eq_true (by kernel_rfl)) (by unfold Func.isWrapper; first | (rw [if_pos (by decide +kernel)]; kernel_rfl) | (rw [if_neg (by decide +kernel)]; exact ⟨rfl, rfl⟩))
    (fun os started H enc _ => lifted os started H enc)

theorem proved : Rows.AutomatonContextsSaid := over
end Go.Proofs.Ytkjlpmkhifjmdaa
