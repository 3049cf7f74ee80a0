/- Merged by program: Tk1 OpenA Lk1a Lk1 -/
import Derived.Test.YtghjpblfneldcaaT6
import Derived.Laws.OwnMore
import Derived.Test.YtghjpblfneldcaaQ22
import Derived.WalkKit
import Derived.ProofKit
import Derived.OpenShut
import Derived.ChangeOld
import Derived.Below
import Derived.Test.YtghjpblfneldcaaT7
import Derived.Test.YtghjpblfneldcaaT9
import Derived.Test.YtghjpblfneldcaaQ20
import Derived.Test.YtghjpblfneldcaaQ15
import Derived.Test.YtghjpblfneldcaaQ23

/-! append of a whole slice onto an empty row, in a region that draws its order. -/
namespace Go.Proofs.Ytghjpblfneldcaa
open Go.RowKit Go.Maps
theorem wpOp_append_copy {P : Program} {ops : Array Oper} {i : Nat} {o : Oper} {a : Act} {w : World} {K : Act → World → Prop} {Q : Exit → Act → World → Prop} (hi : ops[i]? = some o) (hgd : o.guard = none) (s x : Operand) (t : TypeId)
    (ho : o.op = .call { callee := .builtin .append, args := #[s, x], argTypes := #[t, t] })
    (e : TypeId) (ti : TypeInfo) (z : Value) (bytes : Nat) (ht : P.underlying t = some (.slice e)) (hti : P.info? e = some ti) (hz : ti.zero = some z) (hsize : ti.size = 1) (hby : ti.bytes = bytes) (hzs : z.cells.size = 1)
    (base g0 : Nat) (hs : a.eval s = .slice (some ⟨g0, 0, none⟩) 0 0) (hbg : base ≤ g0) (hg0 : Blk w g0 e #[]) (hbase : base ≤ w.heap.size)
    (A : Option Addr) (n c : Nat) (news : List Value) (hx : a.eval x = .slice A n c) (hl : news.length = n) (hnews : 0 < n → ∃ ad : Addr, A = some ad ∧ ∀ j u, news[j]? = some u → w.cell? (ad.add j) = some u)
    (h63 : n ≤ 1000000) (hbytes : bytes ≤ 8)
    (h : ∀ v w', w'.ownsRow base e 1 v n news → Below w.heap.size w w' → K (a.put o.dst v) w') : wpOp P ops Q i K a w := by
  refine wpOp_step hi fun K2 hK2 => ?_
  have hw : Region.wanted o (yielded ops a.tmps) = true := by simp [Region.wanted, hgd]
  rw [if_pos hw]
  rcases Nat.eq_zero_or_pos n with h0 | h0
  · subst h0
    obtain rfl : news = [] := List.eq_nil_of_length_eq_zero hl
    have hr : (Builtin.append_ #[t, t] o.type #[.slice (some ⟨g0, 0, none⟩) 0 0, .slice A 0 c]).run P w = .ok (.slice (some ⟨g0, 0, none⟩) 0 0) w := by
      cases A <;> simp [Builtin.append_, run_underlying ht, sizeOf, typeInfo, hti, Builtin.lenOf, Builtin.firstCells, storeCells, loadCells, loadCellsFrom]
    unfold Oper.wp execOp
    simp only [ho, resolve, invoke, builtin, Sem.run_bind, Sem.run_pure, Result.andThen_ok, List.map_toArray, List.map_cons, List.map_nil, hs, hx, hr]
    exact hK2 _ _ (h _ _ ⟨rfl, .inr ⟨g0, 0, #[], rfl, hbg, hg0, Nat.le_refl _, by unfold maxLen; omega, rfl, rfl⟩⟩ (Below.refl _ _))
  · obtain ⟨ad, rfl, hnw⟩ := hnews h0
    have hr := run_append_grow (P := P) w t o.type e ti z ht hti hz ⟨g0, 0, none⟩ 0 0 [] (by simp) (fun j u hu => by simp at hu) ad n c news (by rw [hsize]; omega) hnw (by omega) (by omega) (growslice_fits (by omega) (by rw [hby]; have : (0 + n) * bytes ≤ (0 + n) * 8 := Nat.mul_le_mul_left _ hbytes; omega))
    unfold Oper.wp execOp
    simp only [ho, resolve, invoke, builtin, Sem.run_bind, Sem.run_pure, Result.andThen_ok, List.map_toArray, List.map_cons, List.map_nil, hs, hx, hr]
    refine hK2 _ _ (h _ _ ?_ ?_)
    · have hge := grownCap_ge w (0 + n) 0 e
      have hcm : grownCap w (0 + n) 0 e ≤ maxLen := grownCap_le_maxLen w (0 + n) 0 e (by unfold maxLen; omega)
      simp only [Nat.zero_add] at hge hcm ⊢
      refine ⟨by omega, .inr ⟨w.heap.size, _, _, rfl, hbase, heap_alloc_new w.drew _, hge, hcm, ?_, ?_⟩⟩
      · simp only [Array.size_append, List.size_toArray, size_zeroCells, List.length_nil]
        rw [hzs]
        omega
      · simp [← hl]
    · exact (Below.refl _ _).drew.alloc (Nat.le_refl _) _
theorem own_takeZ {w : World} {base n cap r : Nat} {e : TypeId} {A : Option Addr} {xs : List Value} (h : w.ownsRow base e 1 (.slice A n cap) n xs) (hr : r ≤ n) : w.ownsRow base e 1 (.slice A r cap) r (xs.take r) ∧ n ≤ cap := by
  obtain ⟨hl, hf⟩ := id h
  rcases hf with ⟨h0, hn0⟩ | ⟨g, cap', cur, e1, hg, hblk, hnc, hcm, hcs, htk⟩
  · injection h0 with e1 e2 e3
    subst e1 e3
    obtain rfl : r = 0 := by omega
    refine ⟨⟨by simp, .inl ⟨rfl, by simp⟩⟩, by omega⟩
  · injection e1 with e2 e3 e4
    subst e2 e4
    refine ⟨⟨by rw [List.length_take]; simp at hl; omega, .inr ⟨g, cap, cur, rfl, hg, hblk, by omega, hcm, hcs, ?_⟩⟩, hnc⟩
    rw [← htk, List.take_take]
    congr 1
    omega
def FreshZ (B : Nat) (t : TypeId) (g : Nat) (w : World) : Prop := B ≤ g ∧ Blk w g t #[]
theorem FreshZ.keepZ {B : Nat} {t : TypeId} {g : Nat} {w w' : World} (h : FreshZ B t g w) (hb : Below w.heap.size w w') : FreshZ B t g w' := ⟨h.1, h.2.keep hb h.2.lt⟩
def OwnZ (B : Nat) (e : TypeId) (n : Nat) (vals : List Value) (z : Option Addr × Nat) (w : World) : Prop := w.ownsRow B e 1 (.slice z.1 n z.2) n vals
theorem OwnZ.keepZ {B : Nat} {e : TypeId} {n : Nat} {vals : List Value} {z : Option Addr × Nat} {w w' : World} (h : OwnZ B e n vals z w) (hb : Below w.heap.size w w') : OwnZ B e n vals z w' := own_keep h hb
theorem seqN_news {w : World} {A : Option Addr} {ks : List Int} (h : SeqN w w.heap.size A ks) : 0 < ks.length → ∃ ad : Addr, A = some ad ∧ ∀ j u, (ks.map (Value.int .i64))[j]? = some u → w.cell? (ad.add j) = some u := fun h0 => by
  obtain ⟨b, o, e, _, hc⟩ := h h0
  refine ⟨_, e, fun j u hu => ?_⟩
  rw [List.getElem?_map] at hu
  obtain ⟨x, hx, rfl⟩ := Option.map_eq_some_iff.1 hu
  obtain ⟨hj, rfl⟩ := List.getElem?_eq_some_iff.1 hx
  rw [show (⟨b, o, none⟩ : Addr).add j = ⟨b, o + j, none⟩ from by simp [Addr.add]]
  exact hc j hj
theorem seq_news {w : World} {A : Option Addr} {ks : List Int} (h : Seq w w.heap.size A ks) : 0 < ks.length → ∃ ad : Addr, A = some ad ∧ ∀ j u, (ks.map (Value.int .u8))[j]? = some u → w.cell? (ad.add j) = some u := fun h0 => by
  obtain ⟨b, o, e, _, hc⟩ := h h0
  refine ⟨_, e, fun j u hu => ?_⟩
  rw [List.getElem?_map] at hu
  obtain ⟨x, hx, rfl⟩ := Option.map_eq_some_iff.1 hu
  obtain ⟨hj, rfl⟩ := List.getElem?_eq_some_iff.1 hx
  rw [show (⟨b, o, none⟩ : Addr).add j = ⟨b, o + j, none⟩ from by simp [Addr.add]]
  exact hc j hj
/-- What an own row of numbers says. -/
theorem own_seq8 {w : World} {base k : Nat} {A : Option Addr} {cs : List Int} (h : w.ownsRow base 86 1 (.slice A cs.length k) cs.length (cs.map (Value.int .u8))) : Seq w w.heap.size A cs := (own_seqC h).seq
end Go.Proofs.Ytghjpblfneldcaa

/-! Opening an argument: an array of integers by value. -/
namespace Go.Proofs.Ytghjpblfneldcaa
open Go.ChangeShapes Go.WideShapes Go.ChangeAt Go.RowKit
def numOfA : Value → Int | .int _ z => z | _ => 0
section
variable {H : Type} {enc : TypeId × Value → H} {P : Program} {w : World} {base : Nat} {spare : Nat → Bool} {held : Bool}
theorem okWide_array {r : Go.Reach} {b0 n : Nat} {t e : TypeId} {v : Value} (ht : P.underlying t = some (.array n e)) (h : Value.okWide P w r b0 t v) : ∃ cs, v = .agg cs ∧ cs.size = P.cellsOf t := by
  simp only [Value.okWide, ht] at h
  obtain ⟨cs, h1, h2, _⟩ := h
  exact ⟨cs, h1, h2⟩
/-- An array of integers by value. -/
theorem open_arr {r : Go.Reach} {b0 n : Nat} {t e : TypeId} {k : IntKind} {v : Value} {d : DataW H} {p : List MemPlace} (ht : P.underlying t = some (.array n e)) (he : P.underlying e = some (.int k)) (hce : P.cellsOf e = 1) (hct : P.cellsOf t = n)
    (hv : Value.okWide P w r b0 t v) (h : DataW.Trod enc P w base spare held t v d p) :
    ∃ zs : List Int, zs.length = n ∧ v = .agg (zs.map (Value.int k)).toArray ∧ ∀ z ∈ zs, (Lit.int k z).wf = true := by
  obtain ⟨cs, rfl, hsz⟩ := okWide_array ht hv
  obtain ⟨fuel, hf⟩ := h
  obtain ⟨xs, m, _, _, _, hxl, hx⟩ := DataW.trod_array ht hf
  have key : ∀ i (hi : i < cs.size), ∃ z, cs[i] = .int k z ∧ (Lit.int k z).wf = true := by
    intro i hi
    have hin : i < n := by omega
    have h1 := hx i hin
    rw [hce, Nat.mul_one] at h1
    have e1 : (((Value.agg cs).cells.toList).drop i).take 1 = [cs[i]] := by
      simp only [Value.cells]
      rw [List.drop_eq_getElem_cons (by simpa using hi)]
      simp
    rw [e1, List.getElem?_eq_getElem (by omega)] at h1
    obtain ⟨z, hz, _, hw⟩ := DataW.trod_int he h1
    exact ⟨z, by simpa using hz, hw⟩
  refine ⟨cs.toList.map numOfA, by simp; omega, ?_, ?_⟩
  · congr 1
    apply Array.ext
    · simp
    · intro i h1 h2
      obtain ⟨z, hz, _⟩ := key i h1
      simp [hz, numOfA]
  · intro z hz
    rw [List.mem_map] at hz
    obtain ⟨v, hv, rfl⟩ := hz
    obtain ⟨i, hi, rfl⟩ := List.getElem_of_mem hv
    obtain ⟨z, hz, hw⟩ := key i (by simpa using hi)
    rw [Array.getElem_toList, hz]; exact hw
set_option maxRecDepth 10000 in
/-- Three bytes. -/
theorem open_three {r : Go.Reach} {b0 : Nat} {v : Value} {d : DataW H} {p : List MemPlace} {W : World} (hv : Value.okWide Try.prog W r b0 85 v) (h : DataW.Trod enc Try.prog W base spare held 85 v d p) :
    ∃ x0 x1 x2 : Int, v = .agg #[.int .u8 x0, .int .u8 x1, .int .u8 x2] ∧ (0 ≤ x0 ∧ x0 < 256) ∧ (0 ≤ x1 ∧ x1 < 256) ∧ (0 ≤ x2 ∧ x2 < 256) := by
  obtain ⟨zs, hl, rfl, hw⟩ := open_arr Try.underlying85 Try.underlying5 (by kernel_rfl) (by kernel_rfl) hv h
  match zs, hl, hw with
  | [x0, x1, x2], _, hw =>
    have b0 := bounds_u8 (hw x0 (by simp))
    have b1 := bounds_u8 (hw x1 (by simp))
    have b2 := bounds_u8 (hw x2 (by simp))
    exact ⟨x0, x1, x2, rfl, ⟨b0.1, by omega⟩, ⟨b1.1, by omega⟩, ⟨b2.1, by omega⟩⟩
end
end Go.Proofs.Ytghjpblfneldcaa

/-! law06.TranslateChecks. -/
namespace Go.Proofs.Ytghjpblfneldcaa
open Go.RowKit Go.Maps
theorem box_two7 (w : World) (r1 r2 : Array Value) {t1 t2 : TypeId} :
    Blk ((w.alloc (.cells r1 t1)).alloc (.cells r2 t2)) w.heap.size t1 r1 ∧ Blk ((w.alloc (.cells r1 t1)).alloc (.cells r2 t2)) (w.heap.size + 1) t2 r2 ∧ Below w.heap.size w ((w.alloc (.cells r1 t1)).alloc (.cells r2 t2)) := by
  have n2 := Blk.new (w.alloc (.cells r1 t1)) r2 t2
  have s : (w.alloc (.cells r1 t1)).heap.size = w.heap.size + 1 := by simp
  rw [s] at n2
  exact ⟨(Blk.new _ _ _).box, n2, ((Below.refl _ _).alloc (Nat.le_refl _) _).alloc (by simp) _⟩
/-- What the copies are, whatever was changed. -/
def ChkM (V : World) (A10 : Option Addr) (cn c10 : Nat) (s12 s14 : Value) (wx : World) : Prop := ∃ (A : Option Addr) (c : Nat) (ps qs : List Int) (S : ByteArray), s12 = .slice A ps.length c ∧ ps.length ≤ 4000 ∧ qs.length = cn ∧ s14 = .string S ∧ wx.ownsRow V.heap.size 3 1 (.slice A ps.length c) ps.length (ps.map (Value.int .i64)) ∧ wx.ownsRow V.heap.size 86 1 (.slice A10 cn c10) cn (qs.map (Value.int .u8)) ∧ Below V.heap.size V wx
theorem rem_nat {x : Int} {n : Nat} (hx : 0 ≤ x) (hn : 0 < n) : ∃ r : Nat, x.tmod (n : Int) = (r : Int) ∧ r < n := by
  rw [Int.tmod_eq_emod_of_nonneg hx]
  have h1 := Int.emod_nonneg x (b := (n : Int)) (by omega)
  have h2 := Int.emod_lt_of_pos x (b := (n : Int)) (by omega)
  exact ⟨(x % (n : Int)).toNat, by omega, by omega⟩
set_option maxRecDepth 10000 in
set_option maxHeartbeats 4000000 in
theorem walk_checks (bs dr : Int) (A : Option Addr) (n k : Nat) (XA : Option Addr) (xk : Nat) (xs : List Int) (x0 x1 x2 : Int) (w : World) (hW : RawMs w w.heap.size A n) (hbs : 0 ≤ bs ∧ bs < 256) (hdr : 0 ≤ dr ∧ dr < 256) (hX : Seq w w.heap.size XA xs) (hxs : ∀ z ∈ xs, 0 ≤ z ∧ z < 256) (hx0 : 0 ≤ x0 ∧ x0 < 256) (hx1 : 0 ≤ x1 ∧ x1 < 256) (hx2 : 0 ≤ x2 ∧ x2 < 256) :
    Calls Try.prog 13 #[.agg #[.int .u8 bs, .int .u8 dr, .slice A n k], .slice XA xs.length xk, .agg #[.int .u8 x0, .int .u8 x1, .int .u8 x2]] w fun e w' => e = .returned (.bool true) ∧ Below w.heap.size w w' := by
  obtain ⟨g, hg⟩ : ∃ g, w.heap.size = g := ⟨_, rfl⟩
  have hbx := box_two7 w #[.int .u8 bs, .int .u8 dr, .slice A n k] #[.int .u8 x0, .int .u8 x1, .int .u8 x2] (t1 := 24) (t2 := 85)
  have V0A : Hid (Blk ((w.alloc (.cells #[.int .u8 bs, .int .u8 dr, .slice A n k] 24)).alloc (.cells #[.int .u8 x0, .int .u8 x1, .int .u8 x2] 85)) g 24 #[.int .u8 bs, .int .u8 dr, .slice A n k]) := by
    unfold Hid; rw [← hg]; exact hbx.1
  have V0S : Hid (Blk ((w.alloc (.cells #[.int .u8 bs, .int .u8 dr, .slice A n k] 24)).alloc (.cells #[.int .u8 x0, .int .u8 x1, .int .u8 x2] 85)) (g + 1) 85 #[.int .u8 x0, .int .u8 x1, .int .u8 x2]) := by
    unfold Hid; rw [← hg]; exact hbx.2.1
  have V0B : Hid (Below w.heap.size w ((w.alloc (.cells #[.int .u8 bs, .int .u8 dr, .slice A n k] 24)).alloc (.cells #[.int .u8 x0, .int .u8 x1, .int .u8 x2] 85))) := hbx.2.2
  clear hbx
  have HW := Lib.hid hW
  have HX := Lib.hid hX
  have HXS := Lib.hid hxs
  clear hW hX hxs
  go_enter Try.func13, Try.ntmps13
  go_wp2_with fail
  generalize ((w.alloc (.cells #[.int .u8 bs, .int .u8 dr, .slice A n k] 24)).alloc (.cells #[.int .u8 x0, .int .u8 x1, .int .u8 x2] 85)) = V0 at *
  refine (sanity6_any _).mono ?_
  rintro e w1 ⟨rfl, hb1⟩
  have A1 := Lib.hid (V0A.out.keep hb1 (Blk.lt V0A.out))
  have S1 := Lib.hid (V0S.out.keep hb1 (Blk.lt V0S.out))
  have B1 : Hid (Below w.heap.size w w1) := below_next V0B.out hb1
  clear hb1 V0A V0S V0B
  have a0 := A1.out.cell 0
  have a1 := A1.out.cell 1
  have a2 := A1.out.cell 2
  simp only [List.getElem?_toArray, List.getElem?_cons_zero, List.getElem?_cons_succ] at a0 a1 a2
  go_wp2_with fail
  have HW1 : RawMs w1 w1.heap.size A n := HW.out.up B1.out
  refine (made_any w1 A n k bs dr HW1 hbs hdr).mono ?_
  rintro e w2 ⟨m, a, rs, v, rfl, hM, hG, hl10, hm12, ha, hb2⟩
  obtain ⟨A2, k2, rfl, hR2, hk2⟩ := (Made.b hM).rules
  have HMB := Lib.hid (Made.b hM)
  have S2 := Lib.hid (S1.out.keep hb2 (Blk.lt S1.out))
  have HG := Lib.hid hG
  have R2 := Lib.hid hR2
  have B2 : Hid (Below w.heap.size w w2) := below_next B1.out hb2
  have HB12 : Hid (Below w1.heap.size w1 w2) := hb2
  clear hb2 hM hG hR2 a0 a1 a2 HW1 A1 S1 HW
  obtain ⟨q, hq⟩ : ∃ q, w2.heap.size = q := ⟨_, rfl⟩
  go_upto_region 3 with fail
  have BA : Hid (Below w2.heap.size w2 (w2.alloc (.cells #[.int .i64 m, .int .u8 a, .slice A2 rs.length k2] 30))) := below_box _ _ _
  have T3 : Hid (Blk (w2.alloc (.cells #[.int .i64 m, .int .u8 a, .slice A2 rs.length k2] 30)) q 30 #[.int .i64 m, .int .u8 a, .slice A2 rs.length k2]) := by
    unfold Hid; rw [← hq]; exact Blk.new w2 _ _
  have R3 := Lib.hid (R2.out.up BA.out)
  have HM3 := Lib.hid (HMB.out.keep BA.out)
  have HB13 : Hid (Below w1.heap.size w1 (w2.alloc (.cells #[.int .i64 m, .int .u8 a, .slice A2 rs.length k2] 30))) := below_next HB12.out BA.out
  have S3 := Lib.hid (S2.out.keep BA.out (Blk.lt S2.out))
  have B3 : Hid (Below w.heap.size w (w2.alloc (.cells #[.int .i64 m, .int .u8 a, .slice A2 rs.length k2] 30))) := below_next B2.out BA.out
  generalize w2.alloc (.cells #[.int .i64 m, .int .u8 a, .slice A2 rs.length k2] 30) = w3 at *
  clear hq BA R2 B2 HMB S2
  have t0 := T3.out.cell 0
  have t1 := T3.out.cell 1
  have t2 := T3.out.cell 2
  simp only [List.getElem?_toArray, List.getElem?_cons_zero, List.getElem?_cons_succ] at t0 t1 t2
  go_wp2_with fail
  refine (walk_any m a A2 rs.length k2 rs w3 rfl R3.out HG.out (by omega) (by omega) ha XA xs.length xk xs rfl (HX.out.up B3.out) HXS.out).mono ?_
  rintro e w4 ⟨hb4, PA, pk, ks, hown, hend⟩
  have T4 := Lib.hid (T3.out.keep hb4 T3.out.lt)
  have R4 := Lib.hid (R3.out.up hb4)
  have S4 := Lib.hid (S3.out.keep hb4 S3.out.lt)
  have B4 : Hid (Below w.heap.size w w4) := below_next B3.out hb4
  have HPN := Lib.hid (own_seqN hown)
  have hks : ks = [] ∨ (runOk a rs ks = true ∧ ks.length ≤ 4000) := by
    rcases hend with ⟨_, h, _⟩ | ⟨_, h1, h2⟩
    · exact .inl h
    · exact .inr ⟨h1, h2⟩
  have hkl : ks.length ≤ 4000 := by
    rcases hend with ⟨_, h, _⟩ | ⟨_, _, h2⟩
    · rw [h]; exact Nat.zero_le _
    · exact h2
  obtain ⟨pb, rfl⟩ : ∃ pb : Bool, e = .returned (.tuple #[.slice PA ks.length pk, .bool pb]) := by
    rcases hend with ⟨h, _⟩ | ⟨h, _⟩
    · exact ⟨_, h⟩
    · exact ⟨_, h⟩
  clear hend hown hb4 t0 t1 t2 T3 R3 S3 B3 HX HXS HM3 HB13 HB12
  have t0 := T4.out.cell 0
  have t1 := T4.out.cell 1
  have t2 := T4.out.cell 2
  simp only [List.getElem?_toArray, List.getElem?_cons_zero, List.getElem?_cons_succ] at t0 t1 t2
  go_wp2_with fail
  refine (rRun_any m a A2 rs.length k2 rs PA ks.length pk ks w4 rfl R4.out HG.out (by omega) (by omega) ha rfl HPN.out (by omega)).mono ?_
  rintro e w5 ⟨CA, ck, rfl, hcs, hb5⟩
  have hcl := run_small HG.out ks
  have hss := text3_small HG.out hks
  have HWG : Hid (wrsB a rs (strOf (runT rs ks).p) (runT rs ks).c ks = runOk a rs ks) := by unfold Hid wrsB; rw [eqB_refl rfl]; simp
  clear hks
  generalize strOf (runT rs ks).p = S at *
  generalize (runT rs ks).c = cl at *
  generalize ((runT rs ks).n : Nat) = tn at *
  generalize (runT rs ks).st = ts at *
  generalize runOk a rs ks = ob at *
  obtain ⟨tm, tl, te⟩ := ts
  have hbx := below_box w5 #[.string S, .slice CA cl.length ck, .int .i64 (tn : Nat), .int .i64 tm, .int .i64 tl, .int .u8 te, .bool ob] 49
  have TQ : Hid (Blk (w5.alloc (.cells #[.string S, .slice CA cl.length ck, .int .i64 (tn : Nat), .int .i64 tm, .int .i64 tl, .int .u8 te, .bool ob] 49)) w5.heap.size 49 #[.string S, .slice CA cl.length ck, .int .i64 (tn : Nat), .int .i64 tm, .int .i64 tl, .int .u8 te, .bool ob]) := Blk.new _ _ _
  have T6 := Lib.hid (T4.out.keep (below_next hb5 hbx) T4.out.lt)
  have R6 := Lib.hid (R4.out.up (below_next hb5 hbx))
  have S6 := Lib.hid (S4.out.keep (below_next hb5 hbx) S4.out.lt)
  have B6 : Hid (Below w.heap.size w (w5.alloc (.cells #[.string S, .slice CA cl.length ck, .int .i64 (tn : Nat), .int .i64 tm, .int .i64 tl, .int .u8 te, .bool ob] 49))) := below_next B4.out (below_next hb5 hbx)
  have P6 := Lib.hid (HPN.out.up (below_next hb5 hbx))
  have C6 := Lib.hid ((hcs.keep hbx).more hbx.size)
  clear hb5 hbx hcs T4 R4 S4 B4 HPN t0 t1 t2
  obtain ⟨d, hd⟩ : ∃ d, w5.heap.size = d := ⟨_, rfl⟩
  rw [hd] at TQ
  go_upto_region 5 with fail
  generalize w5.alloc (.cells #[.string S, .slice CA cl.length ck, .int .i64 (tn : Nat), .int .i64 tm, .int .i64 tl, .int .u8 te, .bool ob] 49) = V at *
  clear hd
  have d0 := TQ.out.cell 0
  have d1 := TQ.out.cell 1
  simp only [List.getElem?_toArray, List.getElem?_cons_zero, List.getElem?_cons_succ] at d0 d1
  have HDL := Lib.hid TQ.out.lt
  refine wp_region_head 11 0 (by kernel_rfl) (fun y => (Value.agg #[Value.int IntKind.u8 bs, Value.int IntKind.u8 dr, Value.slice A n k]) :: (Value.slice XA xs.length xk) :: (Value.agg #[Value.int IntKind.u8 x0, Value.int IntKind.u8 x1, Value.int IntKind.u8 x2]) :: (Value.pointer (some ⟨g, 0, none⟩)) :: undef :: (Value.pointer (some ⟨g + 1, 0, none⟩)) :: (Value.bool false) :: (Value.bool true) :: (Value.pointer (some ⟨q, 0, none⟩)) :: (Value.slice PA ks.length pk) :: (Value.bool pb) :: (Value.pointer (some ⟨d, 0, none⟩)) :: y 9 :: y 10 :: undef :: undef :: undef :: (Value.bool true) :: (Value.agg #[Value.int IntKind.u8 bs, Value.int IntKind.u8 dr, Value.slice A n k]) :: (Value.agg #[Value.int IntKind.i64 m, Value.int IntKind.u8 a, Value.slice A2 rs.length k2]) :: (Value.tuple #[Value.slice PA ks.length pk, Value.bool pb]) :: (Value.agg #[Value.int IntKind.i64 m, Value.int IntKind.u8 a, Value.slice A2 rs.length k2]) :: (Value.slice XA xs.length xk) :: (Value.tuple #[Value.slice PA ks.length pk, Value.bool pb]) :: (Value.slice PA ks.length pk) :: (Value.bool pb) :: (Value.agg #[Value.int IntKind.i64 m, Value.int IntKind.u8 a, Value.slice A2 rs.length k2]) :: (Value.slice PA ks.length pk) :: (Value.agg #[Value.string S, Value.slice CA cl.length ck, Value.int IntKind.i64 ↑tn, Value.int IntKind.i64 tm, Value.int IntKind.i64 tl, Value.int IntKind.u8 te, Value.bool ob]) :: y 0 :: y 1 :: y 2 :: y 3 :: y 4 :: y 5 :: y 6 :: y 7 :: y 8 :: undef :: undef :: undef :: undef :: undef :: undef :: undef :: undef :: undef :: undef :: undef :: undef :: undef :: undef :: undef :: undef :: undef :: undef :: undef :: undef :: undef :: undef :: undef :: undef :: undef :: undef :: undef :: undef :: undef :: undef :: undef :: undef :: undef :: undef :: undef :: undef :: undef :: undef :: undef :: undef :: undef :: undef :: undef :: undef :: undef :: undef :: undef :: undef :: undef :: undef :: undef :: undef :: undef :: undef :: undef :: undef :: undef :: undef :: undef :: undef :: undef :: undef :: undef :: undef :: undef :: undef :: undef :: undef :: undef :: undef :: undef :: undef :: undef :: undef :: undef :: undef :: undef :: undef :: undef :: undef :: undef :: undef :: undef :: undef :: undef :: undef :: undef :: undef :: [])
    (fun _ w' => Below V.heap.size V w') (phiP [pq (fun (g0 : Nat) => .slice (some ⟨g0, 0, none⟩) 0 0) (fun (g0 : Nat) w => FreshZ V.heap.size 3 g0 w), pv (.slice PA ks.length pk), pq (fun (z : Option Addr × Nat) => .slice z.1 ks.length z.2) (fun (z : Option Addr × Nat) w => OwnZ V.heap.size 3 ks.length (ks.map (Value.int .i64)) z w), pq (fun (g0 : Nat) => .slice (some ⟨g0, 0, none⟩) 0 0) (fun (g0 : Nat) w => FreshZ V.heap.size 86 g0 w), pv (.pointer (some ⟨d, 1, none⟩)), pv (.slice CA cl.length ck), pq (fun (z : Option Addr × Nat) => .slice z.1 cl.length z.2) (fun (z : Option Addr × Nat) w => OwnZ V.heap.size 86 cl.length (cl.map (Value.int .u8)) z w), pv (.pointer (some ⟨d, 0, none⟩)), pv (.string S), pq (fun (z : Option Addr × Nat) => .slice z.1 ks.length z.2) (fun (z : Option Addr × Nat) w => OwnZ V.heap.size 3 ks.length (ks.map (Value.int .i64)) z w), pq (fun (z : Option Addr × Nat) => .slice z.1 cl.length z.2) (fun (z : Option Addr × Nat) w => OwnZ V.heap.size 86 cl.length (cl.map (Value.int .u8)) z w)]) (fun i => match i with | 0 => undef | 1 => undef | 2 => undef | 3 => undef | 4 => undef | 5 => undef | 6 => undef | 7 => undef | 8 => undef | 9 => undef | 10 => undef | _ => undef)
    (by kernel_rfl) (by kernel_rfl) (by kernel_rfl) (by kernel_rfl) (fun i v wa wb h hb => phiP_keep (stay_cons (pq_st (fun g0 w w' h hb => h.keepZ hb)) (stay_cons (pv_st) (stay_cons (pq_st (fun z w w' h hb => h.keepZ hb)) (stay_cons (pq_st (fun g0 w w' h hb => h.keepZ hb)) (stay_cons (pv_st) (stay_cons (pv_st) (stay_cons (pq_st (fun z w w' h hb => h.keepZ hb)) (stay_cons (pv_st) (stay_cons (pv_st) (stay_cons (pq_st (fun z w w' h hb => h.keepZ hb)) (stay_cons (pq_st (fun z w w' h hb => h.keepZ hb)) stay_nil))))))))))) h hb) (Below.refl _ _).drew [0, 1, 2, 3, 4, 5, 6, 7, 8, 9, 10] (by kernel_rfl) ?_ ?_
  · refine allCons ?_ (allCons ?_ (allCons ?_ (allCons ?_ (allCons ?_ (allCons ?_ (allCons ?_ (allCons ?_ (allCons ?_ (allCons ?_ (allCons ?_ (allNil)))))))))))
    all_goals intro y w10 K hS hd hK
    · refine wpOp_step rfl (fun K2 hK2 => ?_)
      go_simp
      exact hK2 _ _ (hK _ _ (below_next hS (below_box _ _ _)) ⟨_, rfl, ⟨hS.size, Blk.new _ _ _⟩⟩ (below_box _ _ _))
    · refine wpOp_step rfl (fun K2 hK2 => ?_)
      go_simp
      exact hK2 _ _ (hK _ _ hS rfl (Below.refl _ _))
    · obtain ⟨g0, e0, hg0⟩ := hd 0 rfl
      have e1 : y 1 = _ := hd 1 rfl
      obtain ⟨y, rfl⟩ := upd_at (y := y) (i := 0) e0
      obtain ⟨y, rfl⟩ := upd_at (y := y) (i := 1) e1
      dsimp [upd]
      obtain ⟨i0, hi0, hz0, hz1, hz2⟩ := info_parts info_int
      refine wpOp_append_copy rfl rfl (.tmp 29) (.tmp 30) 43 rfl 3 i0 (.int .i64 0) 8 Try.underlying43 hi0 hz0 hz1 hz2 rfl V.heap.size g0 rfl hg0.1 hg0.2 hS.size _ _ _ (ks.map (Value.int .i64)) rfl (by simp) (seqN_news (P6.out.up hS)) (by omega) (by decide) ?_
      intro v' w' ho hb
      obtain ⟨A', c', rfl⟩ := own_shape ho
      exact hK _ _ (below_next hS hb) ⟨(A', c'), rfl, ho⟩ hb
    · refine wpOp_step rfl (fun K2 hK2 => ?_)
      go_simp
      exact hK2 _ _ (hK _ _ (below_next hS (below_box _ _ _)) ⟨_, rfl, ⟨hS.size, Blk.new _ _ _⟩⟩ (below_box _ _ _))
    · refine wpOp_step rfl (fun K2 hK2 => ?_)
      go_simp
      exact hK2 _ _ (hK _ _ hS rfl (Below.refl _ _))
    · have e4 : y 4 = _ := hd 4 rfl
      obtain ⟨y, rfl⟩ := upd_at (y := y) (i := 4) e4
      dsimp [upd]
      have q1 := (hS.cell (p := ⟨d, 1, none⟩) HDL.out).trans d1
      refine wpOp_step rfl (fun K2 hK2 => ?_)
      go_simp
      exact hK2 _ _ (hK _ _ hS rfl (Below.refl _ _))
    · obtain ⟨g0, e3, hg0⟩ := hd 3 rfl
      have e5 : y 5 = _ := hd 5 rfl
      obtain ⟨y, rfl⟩ := upd_at (y := y) (i := 3) e3
      obtain ⟨y, rfl⟩ := upd_at (y := y) (i := 5) e5
      dsimp [upd]
      obtain ⟨i0, hi0, hz0, hz1, hz2⟩ := info_parts info_cell
      refine wpOp_append_copy rfl rfl (.tmp 32) (.tmp 34) 32 rfl 86 i0 (.int .u8 0) 1 Try.underlying32 hi0 hz0 hz1 hz2 rfl V.heap.size g0 rfl hg0.1 hg0.2 hS.size _ _ _ (cl.map (Value.int .u8)) rfl (by simp) (seq_news ((C6.out.keep hS).more hS.size)) (by omega) (by decide) ?_
      intro v' w' ho hb
      obtain ⟨A', c', rfl⟩ := own_shape ho
      exact hK _ _ (below_next hS hb) ⟨(A', c'), rfl, ho⟩ hb
    · refine wpOp_step rfl (fun K2 hK2 => ?_)
      go_simp
      exact hK2 _ _ (hK _ _ hS rfl (Below.refl _ _))
    · have e7 : y 7 = _ := hd 7 rfl
      obtain ⟨y, rfl⟩ := upd_at (y := y) (i := 7) e7
      dsimp [upd]
      have q0 := (hS.cell (p := ⟨d, 0, none⟩) HDL.out).trans d0
      refine wpOp_step rfl (fun K2 hK2 => ?_)
      go_simp
      exact hK2 _ _ (hK _ _ hS rfl (Below.refl _ _))
    · obtain ⟨⟨A', c'⟩, e2, hp⟩ := hd 2 rfl
      obtain ⟨y, rfl⟩ := upd_at (y := y) (i := 2) e2
      dsimp [upd]
      refine wpOp_step rfl (fun K2 hK2 => ?_)
      go_simp
      exact hK2 _ _ (hK _ _ hS ⟨(A', c'), rfl, hp⟩ (Below.refl _ _))
    · obtain ⟨⟨A', c'⟩, e6, hp⟩ := hd 6 rfl
      obtain ⟨y, rfl⟩ := upd_at (y := y) (i := 6) e6
      dsimp [upd]
      refine wpOp_step rfl (fun K2 hK2 => ?_)
      go_simp
      exact hK2 _ _ (hK _ _ hS ⟨(A', c'), rfl, hp⟩ (Below.refl _ _))
  · intro y w10 f hS hd
    obtain ⟨⟨A9, c9⟩, e9, ho9⟩ := hd 9 (by decide)
    obtain ⟨⟨A10, c10⟩, e10, ho10⟩ := hd 10 (by decide)
    have e8 : y 8 = _ := hd 8 (by decide)
    clear hd
    obtain ⟨y, rfl⟩ := upd_at (y := y) (i := 8) e8
    obtain ⟨y, rfl⟩ := upd_at (y := y) (i := 9) e9
    obtain ⟨y, rfl⟩ := upd_at (y := y) (i := 10) e10
    dsimp [upd]
    refine wpAny_one (i := 11) (by kernel_rfl) ?_
    refine wpOp_step rfl (fun K2 hK2 => ?_)
    go_simp
    refine hK2 _ _ ?_
    clear hK2 K2 e8 e9 e10
    refine wpAny_done (by kernel_rfl) ?_ _
    have HO9 : Hid (w10.ownsRow V.heap.size 3 1 (.slice A9 ks.length c9) ks.length (ks.map (Value.int .i64))) := ho9
    have HO10 : Hid (w10.ownsRow V.heap.size 86 1 (.slice A10 cl.length c10) cl.length (cl.map (Value.int .u8))) := ho10
    have HBV := Lib.hid hS
    have S10 := Lib.hid (S6.out.keep hS S6.out.lt)
    clear ho9 ho10 hS d0 d1
    have x0c := S10.out.cell 0
    have x1c := S10.out.cell 1
    have x2c := S10.out.cell 2
    simp only [List.getElem?_toArray, List.getElem?_cons_zero, List.getElem?_cons_succ] at x0c x1c x2c
    have HRM := Lib.hid (fun n => @rem_nat x1 n hx1.1)
    obtain ⟨r0, hr0, hr4⟩ := @rem_nat x0 4 hx0.1 (by decide)
    obtain ⟨r2, hr2, hr12⟩ := @rem_nat x2 12 hx2.1 (by decide)
    obtain ⟨r3, hr3, hr64⟩ := @rem_nat x2 64 hx2.1 (by decide)
    have hr0' : x0.tmod 4 = (r0 : Int) := hr0
    have hr2' : x2.tmod 12 = (r2 : Int) := hr2
    have hr3' : x2.tmod 64 = (r3 : Int) := hr3
    clear hr0 hr2 hr3
    obtain ⟨b6, hb6⟩ : ∃ b6 : Bool, b6 = (decide (r0 = 0) && decide (0 < ks.length)) := ⟨_, rfl⟩
    have HB6 := Lib.hid hb6
    clear hb6
    go_upto_block 0 with fail
    go_cut [12, 14] from 38 to 96 (fun s12 s14 wx => ChkM V A10 cl.length c10 s12 s14 wx)
    case first =>
      go_upto_region 6 with fail
      go_cut [38] from 39 to 47 (fun s38 wx => s38 = .bool b6 ∧ wx = w10)
      case first =>
        by_cases h0 : r0 = 0
        · have hz : ((r0 : Nat) : Int) = 0 := by omega
          by_cases hl : 0 < ks.length
          · have hl0 : (0 : Int) < (ks.length : Int) := by omega
            have HE : Hid (b6 = true) := by unfold Hid; rw [HB6.out, decide_eq_true h0, decide_eq_true hl]; rfl
            go_wp2_with fail
            go_meet
            exact ⟨by rw [HE.out], rfl⟩
          · have hl0 : ¬ (0 : Int) < (ks.length : Int) := by omega
            have HE : Hid (b6 = false) := by unfold Hid; rw [HB6.out, decide_eq_false hl, Bool.and_false]
            go_wp2_with fail
            go_meet
            exact ⟨by rw [HE.out], rfl⟩
        · have hz : ¬ ((r0 : Nat) : Int) = 0 := by omega
          have HE : Hid (b6 = false) := by unfold Hid; rw [HB6.out, decide_eq_false h0]; rfl
          go_wp2_with fail
          go_meet
          exact ⟨by rw [HE.out], rfl⟩
      case rest =>
        obtain ⟨rfl, rfl⟩ := hcut
        go_upto_if 38 with fail
        cases b6 with
        | true =>
          have hb := HB6.out.symm
          rw [Bool.and_eq_true, decide_eq_true_eq, decide_eq_true_eq] at hb
          obtain ⟨_, hl⟩ := hb
          obtain ⟨r1, hr1, hr1l⟩ := HRM.out ks.length hl
          obtain ⟨b9, rfl, hb9, cb9⟩ := own_cells HO9.out (j := r1) (x := .int .i64 (ks[r1]'hr1l)) (by rw [List.getElem?_map, List.getElem?_eq_getElem hr1l]; rfl)
          obtain ⟨cur9, hc9⟩ := own_blk HO9.out rfl
          have f9 := hc9.free r1
          have hne10 : Value.ownBlock (.slice A10 cl.length c10) ≠ some b9 := own_ne3 HO10.out hc9 (by decide)
          have hdw := (Below.refl wc.heap.size wc).drew
          have HEND : Hid (ChkM V A10 cl.length c10 (.slice (some ⟨b9, 0, none⟩) ks.length c9) (.string S) (wc.drew.setCell ⟨b9, r1, none⟩ (.int .i64 r2))) :=
            ⟨_, c9, ks.set r1 r2, cl, S, by rw [List.length_set], by rw [List.length_set]; exact hkl, rfl, rfl, by
              rw [List.length_set, List.map_set]; exact own_setAt (own_keep HO9.out hdw) hr1l _, ownsRow_setCell_other (own_keep HO10.out hdw) hne10 _, HBV.out.drew.setCell (HO9.out.lt b9 rfl).1 _⟩
          generalize ks[r1]'hr1l = ov at cb9
          have hg9 : g + 1 ≠ b9 := fun e => (hc9.type_ne S10.out (by decide)) e.symm
          have hg9' : b9 ≠ g + 1 := hg9.symm
          have hrz : (0 : Int) < (ks.length : Int) := by omega
          have hr1z : (0 : Int) ≤ (r1 : Int) := by omega
          have hr1y : (r1 : Int) < (ks.length : Int) := by omega
          have hrn : ¬ ks = [] := fun e => by rw [e] at hl; simp at hl
          clear hc9 hne10 hr1l HRM hl hdw
          go_upto_region 7 with fail
          go_region
          go_wp2_with fail
          go_meet
          exact HEND.out
        | false =>
          obtain ⟨b8, hb8⟩ : ∃ b8 : Bool, b8 = (decide (r0 = 1) && decide (0 < cl.length)) := ⟨_, rfl⟩
          have HB8 := Lib.hid hb8
          clear hb8
          go_upto_region 8 with fail
          go_cut [60] from 61 to 69 (fun s60 wx => s60 = .bool b8 ∧ wx = wc)
          case first =>
            by_cases h0 : r0 = 1
            · have hz : ((r0 : Nat) : Int) = 1 := by omega
              by_cases hl : 0 < cl.length
              · have hl0 : (0 : Int) < (cl.length : Int) := by omega
                have HE : Hid (b8 = true) := by unfold Hid; rw [HB8.out, decide_eq_true h0, decide_eq_true hl]; rfl
                go_wp2_with fail
                go_meet
                exact ⟨by rw [HE.out], rfl⟩
              · have hl0 : ¬ (0 : Int) < (cl.length : Int) := by omega
                have HE : Hid (b8 = false) := by unfold Hid; rw [HB8.out, decide_eq_false hl, Bool.and_false]
                go_wp2_with fail
                go_meet
                exact ⟨by rw [HE.out], rfl⟩
            · have hz : ¬ ((r0 : Nat) : Int) = 1 := by omega
              have HE : Hid (b8 = false) := by unfold Hid; rw [HB8.out, decide_eq_false h0]; rfl
              go_wp2_with fail
              go_meet
              exact ⟨by rw [HE.out], rfl⟩
          case rest =>
            obtain ⟨rfl, rfl⟩ := hcut
            go_upto_if 60 with fail
            cases b8 with
            | true =>
              have hb := HB8.out.symm
              rw [Bool.and_eq_true, decide_eq_true_eq, decide_eq_true_eq] at hb
              obtain ⟨_, hl⟩ := hb
              obtain ⟨r1, hr1, hr1l⟩ := HRM.out cl.length hl
              obtain ⟨b9, rfl, hb9, cb9⟩ := own_cells HO10.out (j := r1) (x := .int .u8 (cl[r1]'hr1l)) (by rw [List.getElem?_map, List.getElem?_eq_getElem hr1l]; rfl)
              obtain ⟨cur9, hc9⟩ := own_blk HO10.out rfl
              have f9 := hc9.free r1
              have hne10 : Value.ownBlock (.slice A9 ks.length c9) ≠ some b9 := own_ne3 HO9.out hc9 (by decide)
              have hdw := (Below.refl wc.heap.size wc).drew
              have HEND : Hid (ChkM V (some ⟨b9, 0, none⟩) cl.length c10 (.slice A9 ks.length c9) (.string S) (wc.drew.setCell ⟨b9, r1, none⟩ (.int .u8 r3))) :=
                ⟨_, c9, ks, cl.set r1 r3, S, rfl, hkl, by rw [List.length_set], rfl, ownsRow_setCell_other (own_keep HO9.out hdw) hne10 _, by
                  rw [List.map_set]; exact own_setAt (own_keep HO10.out hdw) hr1l _, HBV.out.drew.setCell (HO10.out.lt b9 rfl).1 _⟩
              generalize cl[r1]'hr1l = ov at cb9
              have hg9 : g + 1 ≠ b9 := fun e => (hc9.type_ne S10.out (by decide)) e.symm
              have hg9' : b9 ≠ g + 1 := hg9.symm
              have hrz : (0 : Int) < (cl.length : Int) := by omega
              have hr1z : (0 : Int) ≤ (r1 : Int) := by omega
              have hr1y : (r1 : Int) < (cl.length : Int) := by omega
              have hrn : ¬ cl = [] := fun e => by rw [e] at hl; simp at hl
              clear hc9 hne10 hr1l HRM hl hdw
              go_upto_region 9 with fail
              go_region
              go_wp2_with fail
              go_meet
              exact HEND.out
            | false =>
              by_cases h2 : r0 = 2
              · have hz : ((r0 : Nat) : Int) = 2 := by omega
                have HEND : Hid (∀ S', ChkM V A10 cl.length c10 (.slice A9 ks.length c9) (.string S') wc) := fun S' => ⟨_, c9, ks, cl, S', rfl, hkl, rfl, rfl, HO9.out, HO10.out, HBV.out⟩
                go_wp2_with fail
                go_meet
                exact HEND.out _
              · have hz : ¬ ((r0 : Nat) : Int) = 2 := by omega
                by_cases hl : 0 < ks.length
                · have hl0 : (0 : Int) < (ks.length : Int) := by omega
                  obtain ⟨hto, hkc⟩ := own_takeZ HO9.out (r := ks.length - 1) (by omega)
                  have HEND : Hid (ChkM V A10 cl.length c10 (.slice A9 (ks.length - 1) c9) (.string S) wc) := ⟨_, c9, ks.take (ks.length - 1), cl, S, by rw [List.length_take, Nat.min_eq_left (by omega)], by rw [List.length_take]; omega, rfl, rfl, by
                    rw [List.length_take, Nat.min_eq_left (by omega), List.map_take]; exact hto, HO10.out, HBV.out⟩
                  have hk1 : ((ks.length : Nat) : Int) - 1 = ((ks.length - 1 : Nat) : Int) := by omega
                  have hk2' : ks.length - 1 ≤ c9 := by omega
                  clear hto
                  go_wp2_with fail
                  go_meet
                  exact HEND.out
                · have hl0 : ¬ (0 : Int) < (ks.length : Int) := by omega
                  have HEND : Hid (ChkM V A10 cl.length c10 (.slice A9 ks.length c9) (.string S) wc) := ⟨_, c9, ks, cl, S, rfl, hkl, rfl, rfl, HO9.out, HO10.out, HBV.out⟩
                  go_wp2_with fail
                  go_meet
                  exact HEND.out
    case rest =>
      obtain ⟨Ap, cp, ps, qs, S', rfl, hps, hqs, rfl, ho1, ho2, hbv⟩ := hcut
      have HP := Lib.hid (own_seqN ho1)
      have HQ := Lib.hid (own_seq8 (by rw [hqs]; exact ho2))
      have T11 := Lib.hid (T6.out.keep hbv T6.out.lt)
      have R11 := Lib.hid (R6.out.up hbv)
      have TQ11 := Lib.hid (TQ.out.keep hbv TQ.out.lt)
      have P11 := Lib.hid (P6.out.up hbv)
      have C11 := Lib.hid ((C6.out.keep hbv).more hbv.size)
      have B11 : Hid (Below w.heap.size w wc) := below_next B6.out hbv
      clear ho1 ho2 hbv HO9 HO10 HBV S10 x0c x1c x2c HRM HB6 hr0' hr2' hr3' hr4 hr12 hr64 S6 T6 R6 TQ P6 C6 B6 HDL
      have d1 := TQ11.out.cell 1
      simp only [List.getElem?_toArray, List.getElem?_cons_zero, List.getElem?_cons_succ] at d1
      have hbx := box_two7 wc #[.slice CA cl.length ck, .slice PA ks.length pk] #[.slice A10 cl.length c10, .slice Ap ps.length cp] (t1 := 60) (t2 := 60)
      go_upto_region 15 with fail
      obtain ⟨z, hz⟩ : ∃ z, wc.heap.size = z := ⟨_, rfl⟩
      have HZ : Hid (Blk ((wc.alloc (.cells #[.slice CA cl.length ck, .slice PA ks.length pk] 60)).alloc (.cells #[.slice A10 cl.length c10, .slice Ap ps.length cp] 60)) z 60 #[.slice CA cl.length ck, .slice PA ks.length pk]) := by
        unfold Hid; rw [← hz]; exact hbx.1
      obtain ⟨z2, hz2⟩ : ∃ z2, z + 1 = z2 := ⟨_, rfl⟩
      have HZ2 : Hid (Blk ((wc.alloc (.cells #[.slice CA cl.length ck, .slice PA ks.length pk] 60)).alloc (.cells #[.slice A10 cl.length c10, .slice Ap ps.length cp] 60)) z2 60 #[.slice A10 cl.length c10, .slice Ap ps.length cp]) := by
        unfold Hid; rw [← hz2, ← hz]; exact hbx.2.1
      have HBX := Lib.hid hbx.2.2
      clear hbx
      simp only [hz]
      clear hz
      simp only [hz2]
      clear hz2 d1
      generalize (wc.alloc (.cells #[.slice CA cl.length ck, .slice PA ks.length pk] 60)).alloc (.cells #[.slice A10 cl.length c10, .slice Ap ps.length cp] 60) = V2 at *
      have T12 := Lib.hid (T11.out.keep HBX.out T11.out.lt)
      have R12 := Lib.hid (R11.out.up HBX.out)
      have TQ12 := Lib.hid (TQ11.out.keep HBX.out TQ11.out.lt)
      have HWA := Lib.hid (WrAt.up (ck := ck) (pk := pk) ⟨C11.out, P11.out, rfl, rfl⟩ HBX.out)
      have HWB := Lib.hid (WrAt.up (ck := c10) (pk := cp) ⟨HQ.out, HP.out, hqs, rfl⟩ HBX.out)
      have B12 : Hid (Below w.heap.size w V2) := below_next B11.out HBX.out
      clear T11 R11 TQ11 P11 C11 HP HQ B11 HBX
      obtain ⟨vb, hvb⟩ : ∃ vb, wrsB a rs S' qs ps = vb := ⟨_, rfl⟩
      have HVB := Lib.hid hvb
      clear hvb
      have HC1 : Hid (∀ W, Below V2.heap.size V2 W → Calls Try.prog 36 #[.agg #[.int .i64 m, .int .u8 a, .slice A2 rs.length k2], .agg #[.slice CA cl.length ck, .slice PA ks.length pk], .string S] W fun e w' => e = .returned (.bool ob) ∧ Below W.heap.size W w') := fun W hb => by
        have h1 := writes6_any m a A2 rs.length k2 rs S _ _ _ _ _ _ _ _ W ⟨R12.out.up hb, HG.out, rfl, by omega, by omega, ha, hk2⟩ (HWA.out.up hb) (by omega)
        rw [HWG.out] at h1
        exact h1
      have HC2 : Hid (∀ W, Below V2.heap.size V2 W → Calls Try.prog 36 #[.agg #[.int .i64 m, .int .u8 a, .slice A2 rs.length k2], .agg #[.slice A10 cl.length c10, .slice Ap ps.length cp], .string S'] W fun e w' => e = .returned (.bool vb) ∧ Below W.heap.size W w') := fun W hb => by
        have h1 := writes6_any m a A2 rs.length k2 rs S' _ _ _ _ _ _ _ _ W ⟨R12.out.up hb, HG.out, rfl, by omega, by omega, ha, hk2⟩ (HWB.out.up hb) (by omega)
        rw [HVB.out] at h1
        exact h1
      have HC3 : Hid (∀ W, Below V2.heap.size V2 W → Calls Try.prog 35 #[.agg #[.int .i64 m, .int .u8 a, .slice A2 rs.length k2], .agg #[.slice A10 cl.length c10, .slice Ap ps.length cp], .string S'] W fun e w' => e = .returned (.bool vb) ∧ Below W.heap.size W w') := fun W hb => by
        have h1 := rWrites_any m a A2 rs.length k2 rs S' A10 Ap cl.length c10 ps.length cp qs ps W rfl (R12.out.up hb) HG.out (by omega) (by omega) ha hqs rfl (HWB.out.up hb).c (HWB.out.up hb).p (by omega)
        rw [HVB.out] at h1
        exact h1
      have t0 := T12.out.cell 0
      have t1 := T12.out.cell 1
      have t2 := T12.out.cell 2
      have d0 := TQ12.out.cell 0
      have d6 := TQ12.out.cell 6
      have z0 := HZ.out.cell 0
      have z1 := HZ.out.cell 1
      have v0 := HZ2.out.cell 0
      have v1 := HZ2.out.cell 1
      simp only [List.getElem?_toArray, List.getElem?_cons_zero, List.getElem?_cons_succ] at t0 t1 t2 d0 d6 z0 z1 v0 v1
      have HTL := Lib.hid T12.out.lt
      have HDL := Lib.hid TQ12.out.lt
      have HZL := Lib.hid HZ.out.lt
      have HVL := Lib.hid HZ2.out.lt
      clear HG R12 HWA HWB HVB HWG hk2 T12 TQ12 HZ HZ2
      obtain ⟨yo, rfl⟩ : ∃ yo : Nat → Value, yo = y := ⟨_, rfl⟩
      refine wp_region_head 22 0 (by kernel_rfl) (fun y => (Value.agg #[Value.int IntKind.u8 bs, Value.int IntKind.u8 dr, Value.slice A n k]) :: (Value.slice XA xs.length xk) :: (Value.agg #[Value.int IntKind.u8 x0, Value.int IntKind.u8 x1, Value.int IntKind.u8 x2]) :: (Value.pointer (some ⟨g, 0, none⟩)) :: undef :: (Value.pointer (some ⟨g + 1, 0, none⟩)) :: (Value.bool false) :: (Value.bool true) :: (Value.pointer (some ⟨q, 0, none⟩)) :: (Value.slice PA ks.length pk) :: (Value.bool pb) :: (Value.pointer (some ⟨d, 0, none⟩)) :: (Value.slice Ap ps.length cp) :: (Value.slice A10 cl.length c10) :: (Value.string S') :: (Value.pointer (some ⟨z, 0, none⟩)) :: (Value.pointer (some ⟨z2, 0, none⟩)) :: (Value.bool true) :: (Value.agg #[Value.int IntKind.u8 bs, Value.int IntKind.u8 dr, Value.slice A n k]) :: (Value.agg #[Value.int IntKind.i64 m, Value.int IntKind.u8 a, Value.slice A2 rs.length k2]) :: (Value.tuple #[Value.slice PA ks.length pk, Value.bool pb]) :: (Value.agg #[Value.int IntKind.i64 m, Value.int IntKind.u8 a, Value.slice A2 rs.length k2]) :: (Value.slice XA xs.length xk) :: (Value.tuple #[Value.slice PA ks.length pk, Value.bool pb]) :: (Value.slice PA ks.length pk) :: (Value.bool pb) :: (Value.agg #[Value.int IntKind.i64 m, Value.int IntKind.u8 a, Value.slice A2 rs.length k2]) :: (Value.slice PA ks.length pk) :: (Value.agg #[Value.string S, Value.slice CA cl.length ck, Value.int IntKind.i64 ↑tn, Value.int IntKind.i64 tm, Value.int IntKind.i64 tl, Value.int IntKind.u8 te, Value.bool ob]) :: (yo 0) :: (yo 1) :: (yo 2) :: (yo 3) :: (yo 4) :: (yo 5) :: (yo 6) :: (yo 7) :: (Value.string S) :: u38 :: u39 :: u40 :: u41 :: u42 :: u43 :: u44 :: u45 :: u46 :: u47 :: u48 :: u49 :: u50 :: u51 :: u52 :: u53 :: u54 :: u55 :: u56 :: u57 :: u58 :: u59 :: u60 :: u61 :: u62 :: u63 :: u64 :: u65 :: u66 :: u67 :: u68 :: u69 :: u70 :: u71 :: u72 :: u73 :: u74 :: u75 :: u76 :: u77 :: u78 :: u79 :: u80 :: u81 :: u82 :: u83 :: u84 :: u85 :: u86 :: u87 :: u88 :: u89 :: u90 :: u91 :: u92 :: u93 :: u94 :: u95 :: u96 :: (Value.pointer (some ⟨d, 1, none⟩)) :: (Value.slice CA cl.length ck) :: (Value.slice PA ks.length pk) :: (Value.agg #[Value.slice CA cl.length ck, Value.slice PA ks.length pk]) :: (Value.slice A10 cl.length c10) :: (Value.slice Ap ps.length cp) :: (Value.agg #[Value.slice A10 cl.length c10, Value.slice Ap ps.length cp]) :: y 0 :: y 1 :: y 2 :: y 3 :: y 4 :: y 5 :: y 6 :: y 7 :: y 8 :: y 9 :: y 10 :: y 11 :: y 12 :: y 13 :: y 14 :: y 15 :: y 16 :: y 17 :: y 18 :: y 19 :: y 20 :: y 21 :: [])
        (fun _ w' => Below V2.heap.size V2 w') (phiP [pv (.agg #[.int .i64 m, .int .u8 a, .slice A2 rs.length k2]), pv (.agg #[.slice CA cl.length ck, .slice PA ks.length pk]), pv (.pointer (some ⟨d, 0, none⟩)), pv (.string S), pv (.bool ob), pv (.pointer (some ⟨d, 6, none⟩)), pv (.bool ob), pv (.bool true), pv (.bool true), pv (.agg #[.int .i64 m, .int .u8 a, .slice A2 rs.length k2]), pv (.agg #[.slice A10 cl.length c10, .slice Ap ps.length cp]), pv (.string S'), pv (.bool vb), pv (.agg #[.int .i64 m, .int .u8 a, .slice A2 rs.length k2]), pv (.agg #[.slice A10 cl.length c10, .slice Ap ps.length cp]), pv (.string S'), pv (.bool vb), pv (.bool true), pv (.bool true), pv (.bool true), pv (.bool true), pv (.bool true)]) (fun i => match i with | 0 => undef | 1 => undef | 2 => undef | 3 => undef | 4 => undef | 5 => undef | 6 => undef | 7 => undef | 8 => undef | 9 => undef | 10 => undef | 11 => undef | 12 => undef | 13 => undef | 14 => undef | 15 => undef | 16 => undef | 17 => undef | 18 => undef | 19 => undef | 20 => undef | 21 => undef | _ => undef)
        (by kernel_rfl) (by kernel_rfl) (by kernel_rfl) (by kernel_rfl) (fun i v wa wb h hb => phiP_keep (stay_cons (pv_st) (stay_cons (pv_st) (stay_cons (pv_st) (stay_cons (pv_st) (stay_cons (pv_st) (stay_cons (pv_st) (stay_cons (pv_st) (stay_cons (pv_st) (stay_cons (pv_st) (stay_cons (pv_st) (stay_cons (pv_st) (stay_cons (pv_st) (stay_cons (pv_st) (stay_cons (pv_st) (stay_cons (pv_st) (stay_cons (pv_st) (stay_cons (pv_st) (stay_cons (pv_st) (stay_cons (pv_st) (stay_cons (pv_st) (stay_cons (pv_st) (stay_cons (pv_st) stay_nil)))))))))))))))))))))) h hb) (Below.refl _ _).drew [0, 1, 2, 3, 4, 5, 6, 7, 8, 9, 10, 11, 12, 13, 14, 15, 16, 17, 18, 19, 20, 21] (by kernel_rfl) ?_ ?_
      · refine allCons ?_ (allCons ?_ (allCons ?_ (allCons ?_ (allCons ?_ (allCons ?_ (allCons ?_ (allCons ?_ (allCons ?_ (allCons ?_ (allCons ?_ (allCons ?_ (allCons ?_ (allCons ?_ (allCons ?_ (allCons ?_ (allCons ?_ (allCons ?_ (allCons ?_ (allCons ?_ (allCons ?_ (allCons ?_ (allNil))))))))))))))))))))))
        all_goals intro y w10 K hS hd hK
        · have qq0 := (hS.cell (p := ⟨q, 0, none⟩) HTL.out).trans t0
          have qq1 := (hS.cell (p := ⟨q, 1, none⟩) HTL.out).trans t1
          have qq2 := (hS.cell (p := ⟨q, 2, none⟩) HTL.out).trans t2
          refine wpOp_step rfl (fun K2 hK2 => ?_)
          go_simp
          exact hK2 _ _ (hK _ _ hS rfl (Below.refl _ _))
        · have qz0 := (hS.cell (p := ⟨z, 0, none⟩) HZL.out).trans z0
          have qz1 := (hS.cell (p := ⟨z, 1, none⟩) HZL.out).trans z1
          refine wpOp_step rfl (fun K2 hK2 => ?_)
          go_simp
          exact hK2 _ _ (hK _ _ hS rfl (Below.refl _ _))
        · refine wpOp_step rfl (fun K2 hK2 => ?_)
          go_simp
          exact hK2 _ _ (hK _ _ hS rfl (Below.refl _ _))
        · have e2 : y 2 = _ := hd 2 rfl
          obtain ⟨y, rfl⟩ := upd_at (y := y) (i := 2) e2
          dsimp [upd]
          have qd0 := (hS.cell (p := ⟨d, 0, none⟩) HDL.out).trans d0
          refine wpOp_step rfl (fun K2 hK2 => ?_)
          go_simp
          exact hK2 _ _ (hK _ _ hS rfl (Below.refl _ _))
        · have e0 : y 0 = _ := hd 0 rfl
          have e1 : y 1 = _ := hd 1 rfl
          have e3 : y 3 = _ := hd 3 rfl
          obtain ⟨y, rfl⟩ := upd_at (y := y) (i := 0) e0
          obtain ⟨y, rfl⟩ := upd_at (y := y) (i := 1) e1
          obtain ⟨y, rfl⟩ := upd_at (y := y) (i := 3) e3
          dsimp [upd]
          refine wpOp_step rfl (fun K2 hK2 => ?_)
          go_simp
          refine (HC1.out w10 hS).mono ?_
          rintro e' w2 ⟨rfl, hb2⟩
          exact hK2 _ _ (hK _ _ (below_next hS hb2) rfl hb2)
        · refine wpOp_step rfl (fun K2 hK2 => ?_)
          go_simp
          exact hK2 _ _ (hK _ _ hS rfl (Below.refl _ _))
        · have e5 : y 5 = _ := hd 5 rfl
          obtain ⟨y, rfl⟩ := upd_at (y := y) (i := 5) e5
          dsimp [upd]
          have qd6 := (hS.cell (p := ⟨d, 6, none⟩) HDL.out).trans d6
          refine wpOp_step rfl (fun K2 hK2 => ?_)
          go_simp
          exact hK2 _ _ (hK _ _ hS rfl (Below.refl _ _))
        · have e4 : y 4 = _ := hd 4 rfl
          have e6 : y 6 = _ := hd 6 rfl
          obtain ⟨y, rfl⟩ := upd_at (y := y) (i := 4) e4
          obtain ⟨y, rfl⟩ := upd_at (y := y) (i := 6) e6
          dsimp [upd]
          refine wpOp_step rfl (fun K2 hK2 => ?_)
          go_simp
          exact hK2 _ _ (hK _ _ hS rfl (Below.refl _ _))
        · have e7 : y 7 = _ := hd 7 rfl
          obtain ⟨y, rfl⟩ := upd_at (y := y) (i := 7) e7
          dsimp [upd]
          refine wpOp_step rfl (fun K2 hK2 => ?_)
          go_simp
          exact hK2 _ _ (hK _ _ hS rfl (Below.refl _ _))
        · have e8 : y 8 = _ := hd 8 rfl
          obtain ⟨y, rfl⟩ := upd_at (y := y) (i := 8) e8
          dsimp [upd]
          have qq0 := (hS.cell (p := ⟨q, 0, none⟩) HTL.out).trans t0
          have qq1 := (hS.cell (p := ⟨q, 1, none⟩) HTL.out).trans t1
          have qq2 := (hS.cell (p := ⟨q, 2, none⟩) HTL.out).trans t2
          refine wpOp_step rfl (fun K2 hK2 => ?_)
          go_simp
          exact hK2 _ _ (hK _ _ hS rfl (Below.refl _ _))
        · have e8 : y 8 = _ := hd 8 rfl
          obtain ⟨y, rfl⟩ := upd_at (y := y) (i := 8) e8
          dsimp [upd]
          have qv0 := (hS.cell (p := ⟨z2, 0, none⟩) HVL.out).trans v0
          have qv1 := (hS.cell (p := ⟨z2, 1, none⟩) HVL.out).trans v1
          refine wpOp_step rfl (fun K2 hK2 => ?_)
          go_simp
          exact hK2 _ _ (hK _ _ hS rfl (Below.refl _ _))
        · have e8 : y 8 = _ := hd 8 rfl
          obtain ⟨y, rfl⟩ := upd_at (y := y) (i := 8) e8
          dsimp [upd]
          refine wpOp_step rfl (fun K2 hK2 => ?_)
          go_simp
          exact hK2 _ _ (hK _ _ hS rfl (Below.refl _ _))
        · have e8 : y 8 = _ := hd 8 rfl
          have e9 : y 9 = _ := hd 9 rfl
          have e10 : y 10 = _ := hd 10 rfl
          have e11 : y 11 = _ := hd 11 rfl
          obtain ⟨y, rfl⟩ := upd_at (y := y) (i := 8) e8
          obtain ⟨y, rfl⟩ := upd_at (y := y) (i := 9) e9
          obtain ⟨y, rfl⟩ := upd_at (y := y) (i := 10) e10
          obtain ⟨y, rfl⟩ := upd_at (y := y) (i := 11) e11
          dsimp [upd]
          refine wpOp_step rfl (fun K2 hK2 => ?_)
          go_simp
          refine (HC2.out w10 hS).mono ?_
          rintro e' w2 ⟨rfl, hb2⟩
          exact hK2 _ _ (hK _ _ (below_next hS hb2) rfl hb2)
        · have e8 : y 8 = _ := hd 8 rfl
          obtain ⟨y, rfl⟩ := upd_at (y := y) (i := 8) e8
          dsimp [upd]
          have qq0 := (hS.cell (p := ⟨q, 0, none⟩) HTL.out).trans t0
          have qq1 := (hS.cell (p := ⟨q, 1, none⟩) HTL.out).trans t1
          have qq2 := (hS.cell (p := ⟨q, 2, none⟩) HTL.out).trans t2
          refine wpOp_step rfl (fun K2 hK2 => ?_)
          go_simp
          exact hK2 _ _ (hK _ _ hS rfl (Below.refl _ _))
        · have e8 : y 8 = _ := hd 8 rfl
          obtain ⟨y, rfl⟩ := upd_at (y := y) (i := 8) e8
          dsimp [upd]
          have qv0 := (hS.cell (p := ⟨z2, 0, none⟩) HVL.out).trans v0
          have qv1 := (hS.cell (p := ⟨z2, 1, none⟩) HVL.out).trans v1
          refine wpOp_step rfl (fun K2 hK2 => ?_)
          go_simp
          exact hK2 _ _ (hK _ _ hS rfl (Below.refl _ _))
        · have e8 : y 8 = _ := hd 8 rfl
          obtain ⟨y, rfl⟩ := upd_at (y := y) (i := 8) e8
          dsimp [upd]
          refine wpOp_step rfl (fun K2 hK2 => ?_)
          go_simp
          exact hK2 _ _ (hK _ _ hS rfl (Below.refl _ _))
        · have e8 : y 8 = _ := hd 8 rfl
          have e13 : y 13 = _ := hd 13 rfl
          have e14 : y 14 = _ := hd 14 rfl
          have e15 : y 15 = _ := hd 15 rfl
          obtain ⟨y, rfl⟩ := upd_at (y := y) (i := 8) e8
          obtain ⟨y, rfl⟩ := upd_at (y := y) (i := 13) e13
          obtain ⟨y, rfl⟩ := upd_at (y := y) (i := 14) e14
          obtain ⟨y, rfl⟩ := upd_at (y := y) (i := 15) e15
          dsimp [upd]
          refine wpOp_step rfl (fun K2 hK2 => ?_)
          go_simp
          refine (HC3.out w10 hS).mono ?_
          rintro e' w2 ⟨rfl, hb2⟩
          exact hK2 _ _ (hK _ _ (below_next hS hb2) rfl hb2)
        · have e8 : y 8 = _ := hd 8 rfl
          have e12 : y 12 = _ := hd 12 rfl
          have e16 : y 16 = _ := hd 16 rfl
          obtain ⟨y, rfl⟩ := upd_at (y := y) (i := 8) e8
          obtain ⟨y, rfl⟩ := upd_at (y := y) (i := 12) e12
          obtain ⟨y, rfl⟩ := upd_at (y := y) (i := 16) e16
          dsimp [upd]
          refine wpOp_step rfl (fun K2 hK2 => ?_)
          go_simp
          exact hK2 _ _ (hK _ _ hS rfl (Below.refl _ _))
        · have e8 : y 8 = _ := hd 8 rfl
          have e17 : y 17 = _ := hd 17 rfl
          obtain ⟨y, rfl⟩ := upd_at (y := y) (i := 8) e8
          obtain ⟨y, rfl⟩ := upd_at (y := y) (i := 17) e17
          dsimp [upd]
          refine wpOp_step rfl (fun K2 hK2 => ?_)
          go_simp
          exact hK2 _ _ (hK _ _ hS rfl (Below.refl _ _))
        · have e18 : y 18 = _ := hd 18 rfl
          obtain ⟨y, rfl⟩ := upd_at (y := y) (i := 18) e18
          dsimp [upd]
          refine wpOp_step rfl (fun K2 hK2 => ?_)
          go_simp
          exact hK2 _ _ (hK _ _ hS rfl (Below.refl _ _))
        · have e19 : y 19 = _ := hd 19 rfl
          obtain ⟨y, rfl⟩ := upd_at (y := y) (i := 19) e19
          dsimp [upd]
          refine wpOp_step rfl (fun K2 hK2 => ?_)
          go_simp
          exact hK2 _ _ (hK _ _ hS rfl (Below.refl _ _))
        · have e19 : y 19 = _ := hd 19 rfl
          have e20 : y 20 = _ := hd 20 rfl
          obtain ⟨y, rfl⟩ := upd_at (y := y) (i := 19) e19
          obtain ⟨y, rfl⟩ := upd_at (y := y) (i := 20) e20
          dsimp [upd]
          refine wpOp_step rfl (fun K2 hK2 => ?_)
          go_simp
          exact hK2 _ _ (hK _ _ hS rfl (Below.refl _ _))
      · intro y w10 f hS hd
        have e21 : y 21 = _ := hd 21 (by decide)
        clear hd
        obtain ⟨y, rfl⟩ := upd_at (y := y) (i := 21) e21
        dsimp [upd]
        refine wpAny_one (i := 22) (by kernel_rfl) ?_
        refine wpOp_step rfl (fun K2 hK2 => ?_)
        go_simp
        refine hK2 _ _ ?_
        clear hK2 K2 e21
        refine wpAny_done (by kernel_rfl) ?_ _
        have HE := Lib.hid (below_next B12.out hS)
        clear hS HC1 HC2 HC3 t0 t1 t2 d0 d6 z0 z1 v0 v1 HTL HDL HZL HVL B12
        go_wp2_with fail
        go_ret
        exact ⟨rfl, HE.out⟩
end Go.Proofs.Ytghjpblfneldcaa

/-! sixdotlaw06.TranslateChecks: the row. -/
namespace Go.Proofs.Ytghjpblfneldcaa
open Go.ChangeShapes Go.WideShapes Go.ChangeAt Go.WideMaps Go.WideElems Go.RowKit

theorem own : ownKnob Try.prog.godebug = none := by kernel_rfl
theorem laidOut : laidOutB Try.prog = true := by kernel_rfl
set_option maxRecDepth 100000 in
theorem lifted (os : Os) (started : os.Started) (H : Type) (enc : TypeId × Value → H) :
    ReturnsInHanded {} Try.checked os 13 .any (Rows.translateChecksSpec.pre6 enc Try.prog Try.f13 Rows.translateChecksRow.domain false) (Rows.translateChecksSpec.post enc Try.prog Try.f13 false true false false) := by
  refine returnsInHanded_of_change (C := Try.checked) own started (by kernel_rfl) Try.func13
    (ChangeSpec.witness6 (enc := enc) (C := Try.checked) false ⟨#[], #[.agg #[.int .u8 0, .int .u8 0, .slice none 0 0], .slice none 0 0, .agg #[.int .u8 0, .int .u8 0, .int .u8 0]], []⟩ 8 (by kernel_rfl) (by kernel_rfl) (by kernel_rfl) (by kernel_rfl)) ?_
  intro W base args ds gs before hval0 hW hcnd _
  have hval : ∀ (j : Nat) t v, Try.f13.params[j]? = some t → args[j]? = some v → Value.okWide Try.prog W .any base t v := hval0
  have hW' := hW
  obtain ⟨p, q, hA0, hV, rfl, hfz, hnd⟩ := hW
  have hA : DataW.TrodAll enc Try.prog W 0 (fun _ => true) true Try.f13.params.toList args.toList ds p := hA0
  rw [Try.params13] at hA hval
  obtain ⟨v0, vs0, d0, ds0, p0, q0, hargs, rfl, rfl, h0, r0⟩ := trodAll_cons hA
  obtain ⟨v1, vs1, d1, ds1, p1, q1, rfl, rfl, rfl, h1, r1⟩ := trodAll_cons r0
  obtain ⟨v2, vs2, d2, ds2, p2, q2, rfl, rfl, rfl, h2, r2⟩ := trodAll_cons r1
  obtain ⟨rfl, rfl, rfl⟩ := trodAll_nil r2
  obtain rfl : args = #[v0, v1, v2] := by cases args; simp_all
  obtain ⟨rfl, rfl⟩ := trodVars_none hV
  have k0 := h0
  have lt0 : ∀ x ∈ p0, x.block < W.heap.size := by obtain ⟨m, hm⟩ := k0; exact DataW.trod_lt m _ _ _ hm
  have k1 := h1
  have lt1 : ∀ x ∈ p1, x.block < W.heap.size := by obtain ⟨m, hm⟩ := k1; exact DataW.trod_lt m _ _ _ hm
  have k2 := h2
  have lt2 : ∀ x ∈ p2, x.block < W.heap.size := by obtain ⟨m, hm⟩ := k2; exact DataW.trod_lt m _ _ _ hm
  obtain ⟨bs, dr, A, n, k, rfl, hr0, hbs, hdr⟩ := open_raw (hval 0 24 v0 rfl rfl) h0
  obtain ⟨XA1, xk1, xs1, rfl, hx1, hz1⟩ := open_bytesL (hval 1 25 v1 rfl rfl) h1
  obtain ⟨x0, x1, x2, rfl, hx20, hx21, hx22⟩ := open_three (hval 2 85 v2 rfl rfl) h2
  clear hA0 hval0
  refine (walk_checks bs dr A n k XA1 xk1 xs1 x0 x1 x2 W hr0 hbs hdr hx1 hz1 hx20 hx21 hx22).mono fun e W' ⟨he, bel⟩ => ?_
  subst he
  exact ⟨_, rfl, _, _, _, [], _, [], hW', trodAll_mk1 (shut_bool Try.underlying4 _), (trodAll_cons_mk (Below.trod laidOut (by kernel_rfl) (of_decide_eq_true (by kernel_rfl)) k0 bel lt0) (trodAll_cons_mk (Below.trod laidOut (by kernel_rfl) (of_decide_eq_true (by kernel_rfl)) k1 bel lt1) (trodAll_cons_mk (Below.trod laidOut (by kernel_rfl) (of_decide_eq_true (by kernel_rfl)) k2 bel lt2) trodAll_mk0))), rfl, bel.frame _, fun h => by cases h⟩

theorem over : Rows.translateChecksRow.holds Try.pinned (OpenSpec.ofChange Rows.translateChecksSpec) :=
  OpenClaim.holds_of_wide 13 Try.f13 rfl rfl rfl rfl rfl rfl rfl ⟨rfl, rfl, rfl, rfl, rfl⟩ rfl rfl rfl rfl rfl (by kernel_rfl) Try.func13 (by kernel_rfl)
    (of_decide_eq_true (by kernel_rfl)) (by unfold Func.isWrapper; first | (rw [if_pos (by decide +kernel)]; kernel_rfl) | (rw [if_neg (by decide +kernel)]; exact ⟨rfl, rfl⟩))
    (fun os started H enc _ => lifted os started H enc)

theorem proved : Rows.TranslateChecksSaid := over
end Go.Proofs.Ytghjpblfneldcaa
