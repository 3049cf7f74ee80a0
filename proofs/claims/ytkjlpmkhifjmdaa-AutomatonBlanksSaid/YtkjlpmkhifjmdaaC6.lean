/- Merged by program: Lw6a Lw6 -/
import Derived.Test.YtkjlpmkhifjmdaaQ20
import Derived.Test.YtkjlpmkhifjmdaaQ21
import Derived.Test.YtkjlpmkhifjmdaaQ15
import Derived.Test.YtkjlpmkhifjmdaaQ22
import Derived.ProofKit
import Derived.OpenShut

/-! law03.AutomatonBlanks. -/
namespace Go.Proofs.Ytkjlpmkhifjmdaa
open Go.RowKit Go.Maps
set_option maxRecDepth 10000 in
set_option maxHeartbeats 4000000 in
theorem walk_blanks (bs dr : Int) (A : Option Addr) (n k : Nat) (XA : Option Addr) (xk : Nat) (xs : List Int) (w : World) (hW : RawMs w w.heap.size A n) (hbs : 0 ≤ bs ∧ bs < 256) (hdr : 0 ≤ dr ∧ dr < 256) (hX : Seq w w.heap.size XA xs) (hxs : ∀ z ∈ xs, 0 ≤ z ∧ z < 256) :
    Calls Try.prog 8 #[.agg #[.int .u8 bs, .int .u8 dr, .slice A n k], .slice XA xs.length xk] w fun e w' => e = .returned (.bool true) ∧ Below w.heap.size w w' := by
  obtain ⟨g, hg⟩ : ∃ g, w.heap.size = g := ⟨_, rfl⟩
  have V0A : Hid (Blk (w.alloc (.cells #[.int .u8 bs, .int .u8 dr, .slice A n k] 24)) g 24 #[.int .u8 bs, .int .u8 dr, .slice A n k]) := by
    unfold Hid; rw [← hg]; exact Blk.new w _ _
  have V0B : Hid (Below w.heap.size w (w.alloc (.cells #[.int .u8 bs, .int .u8 dr, .slice A n k] 24))) := (Below.refl _ _).alloc (Nat.le_refl _) _
  have HW := Lib.hid hW
  have HX := Lib.hid hX
  have HXS := Lib.hid hxs
  clear hW hX hxs
  go_enter Try.func8, Try.ntmps8
  go_wp2_with fail
  generalize w.alloc (.cells #[.int .u8 bs, .int .u8 dr, .slice A n k] 24) = V0 at *
  refine (sanity3_any _).mono ?_
  rintro e w1 ⟨rfl, hb1⟩
  have A1 := Lib.hid (V0A.out.keep hb1 (Blk.lt V0A.out))
  have B1 : Hid (Below w.heap.size w w1) := below_next V0B.out hb1
  clear hb1 V0A V0B
  have a0 := A1.out.cell 0
  have a1 := A1.out.cell 1
  have a2 := A1.out.cell 2
  simp only [List.getElem?_toArray, List.getElem?_cons_zero, List.getElem?_cons_succ] at a0 a1 a2
  go_wp2_with fail
  have HW1 : RawMs w1 w1.heap.size A n := HW.out.up B1.out
  refine (made_any w1 A n k bs dr HW1 hbs hdr).mono ?_
  rintro e w2 ⟨m, a, rs, v, rfl, hM, hG, hl10, hm12, ha, hb2⟩
  obtain ⟨A2, k2, rfl, hR2, _⟩ := (Made.b hM).rules
  have HG := Lib.hid hG
  have R2 := Lib.hid hR2
  have B2 : Hid (Below w.heap.size w w2) := below_next B1.out hb2
  clear hb2 hM hG hR2 a0 a1 a2 HW1 B1 A1 HW
  obtain ⟨q, hq⟩ : ∃ q, w2.heap.size = q := ⟨_, rfl⟩
  go_upto_region 3 with fail
  have BA : Hid (Below w2.heap.size w2 (w2.alloc (.cells #[.int .i64 m, .int .u8 a, .slice A2 rs.length k2] 31))) := below_box _ _ _
  have T3 : Hid (Blk (w2.alloc (.cells #[.int .i64 m, .int .u8 a, .slice A2 rs.length k2] 31)) q 31 #[.int .i64 m, .int .u8 a, .slice A2 rs.length k2]) := by
    unfold Hid; rw [← hq]; exact Blk.new w2 _ _
  have R3 := Lib.hid (R2.out.up BA.out)
  have B3 : Hid (Below w.heap.size w (w2.alloc (.cells #[.int .i64 m, .int .u8 a, .slice A2 rs.length k2] 31))) := below_next B2.out BA.out
  generalize w2.alloc (.cells #[.int .i64 m, .int .u8 a, .slice A2 rs.length k2] 31) = w3 at *
  clear hq BA R2 B2
  have t0 := T3.out.cell 0
  have t1 := T3.out.cell 1
  have t2 := T3.out.cell 2
  simp only [List.getElem?_toArray, List.getElem?_cons_zero, List.getElem?_cons_succ] at t0 t1 t2
  go_wp2_with fail
  refine (walk_any m a A2 rs.length k2 rs w3 rfl R3.out HG.out (by omega) (by omega) ha XA xs.length xk xs rfl (HX.out.up B3.out) HXS.out).mono ?_
  rintro e w4 ⟨hb4, PA, pk, ks, hown, hend⟩
  have T4 := Lib.hid (T3.out.keep hb4 T3.out.lt)
  have R4 := Lib.hid (R3.out.up hb4)
  have B4 : Hid (Below w.heap.size w w4) := below_next B3.out hb4
  have HO := Lib.hid hown
  clear hb4 hown t0 t1 t2 T3 R3 B3 HX HXS
  rcases hend with ⟨rfl, rfl, _⟩ | ⟨rfl, hok, hkl⟩
  · go_wp2_with fail
    go_ret
    exact ⟨rfl, B4.out⟩
  · obtain ⟨rp, rc, _, rn⟩ := ok_run hok
    obtain ⟨b1, b2, b3⟩ := ok_blanks HG.out hok
    obtain ⟨u1, u2⟩ := ok_sizes HG.out hok
    have t0 := T4.out.cell 0
    have t1 := T4.out.cell 1
    have t2 := T4.out.cell 2
    simp only [List.getElem?_toArray, List.getElem?_cons_zero, List.getElem?_cons_succ] at t0 t1 t2
    have HOK := Lib.hid hok
    have HRP := Lib.hid rp
    have HB1 := Lib.hid b1
    have HB2 := Lib.hid b2
    have HB3 := Lib.hid b3
    clear hok rp rc rn b1 b2 b3
    go_wp2_with fail
    refine (run_any m a A2 rs.length k2 rs PA ks.length pk ks w4 rfl R4.out HG.out (by omega) (by omega) ha rfl (own_seqN HO.out) (by omega)).mono ?_
    rintro e w5 ⟨CA, ck, rfl, hcs, hb5⟩
    rw [HRP.out, HOK.out]
    have hSB := bytes_strOf (l := prtL rs ks) prt_bd
    obtain ⟨S, hS⟩ : ∃ S, strOf ((prtL rs ks).map fun b : Nat => (b : Int)) = S := ⟨_, rfl⟩
    rw [hS] at hSB ⊢
    rw [← hSB] at HB1 HB2
    have hss : S.size ≤ 16000 := by
      have h1 := bytes_len S
      rw [hSB] at h1
      omega
    clear hS hSB HRP
    have HCS := Lib.hid hcs
    have B5 : Hid (Below w.heap.size w w5) := below_next B4.out hb5
    have hcl : (runT rs ks).c.length ≤ 16000 := by omega
    clear hcs hb5 t0 t1 t2 T4 R4 B4 HO HOK u1 u2
    generalize (runT rs ks).c = cl at *
    generalize ((runT rs ks).n : Nat) = tn at *
    generalize (runT rs ks).st = ts at *
    obtain ⟨tm, tl, te⟩ := ts
    go_upto_region 7 with fail
    have BA := below_box w5 #[.string S, .slice CA cl.length ck, .int .i64 (tn : Nat), .int .i64 tm, .int .i64 tl, .int .u8 te, .bool true] 41
    have TQ : Hid (Blk (w5.alloc (.cells #[.string S, .slice CA cl.length ck, .int .i64 (tn : Nat), .int .i64 tm, .int .i64 tl, .int .u8 te, .bool true] 41)) w5.heap.size 41 #[.string S, .slice CA cl.length ck, .int .i64 (tn : Nat), .int .i64 tm, .int .i64 tl, .int .u8 te, .bool true]) := Blk.new _ _ _
    have HCX := Lib.hid (HCS.out.up BA)
    have B6 : Hid (Below w.heap.size w (w5.alloc (.cells #[.string S, .slice CA cl.length ck, .int .i64 (tn : Nat), .int .i64 tm, .int .i64 tl, .int .u8 te, .bool true] 41))) := below_next B5.out BA
    generalize w5.alloc (.cells #[.string S, .slice CA cl.length ck, .int .i64 (tn : Nat), .int .i64 tm, .int .i64 tl, .int .u8 te, .bool true] 41) = w6 at *
    obtain ⟨d, hd⟩ : ∃ d, w5.heap.size = d := ⟨_, rfl⟩
    rw [hd] at TQ
    simp only [hd]
    clear hd BA HCS B5
    have z0 := TQ.out.cell 0
    have z1 := TQ.out.cell 1
    have z4 := TQ.out.cell 6
    simp only [List.getElem?_toArray, List.getElem?_cons_zero, List.getElem?_cons_succ] at z0 z1 z4
    go_wp2_with fail
    go_loop [10, 12] (fun s10 s12 => ∃ i : Nat, s12 = .int .i64 i ∧ i ≤ cl.length ∧ s10 = .int .i64 ((cl.take i).count 0 : Nat)) (fun _ s12 => cl.length - (intOf s12).toNat)
    case atStart => exact ⟨0, rfl, Nat.zero_le _, rfl⟩
    case round =>
      obtain ⟨i, rfl, hi1, rfl⟩ := hrel
      by_cases hlt : i < cl.length
      · obtain ⟨cb, co, rfl, _, hcc⟩ := HCX.out (by omega)
        have x0 := hcc i hlt
        have hx63 := HB3.out _ (List.getElem_mem hlt)
        have HCT := Lib.hid (count_step hlt)
        have hcnt : (cl.take i).count 0 ≤ i := Nat.le_trans List.count_le_length (by simp; omega)
        have hi0 : (0 : Int) ≤ (i : Int) := by omega
        have hin : (i : Int) < (cl.length : Int) := by omega
        have HI := Lib.hid hlt
        clear hcc
        generalize cl[i]'hlt = x at *
        generalize (cl.take i).count 0 = cn at *
        have hx63' : decide (63 ≤ x) = false := decide_eq_false (by omega)
        by_cases hx : x = 0
        · subst hx
          go_wp2_with fail
          exact ⟨⟨i + 1, by go_num, HI.out, by rw [HCT.out]; rfl⟩, by have := HI.out; simp [intOf]; omega⟩
        · have hx' : (x == 0) = false := by rw [beq_eq_false_iff_ne]; exact hx
          have HXN := Lib.hid hx
          clear hx
          go_wp2_with fail
          exact ⟨⟨i + 1, by go_num, HI.out, by rw [HCT.out, if_neg HXN.out]; rfl⟩, by have := HI.out; simp [intOf]; omega⟩
      · have hie : i = cl.length := by omega
        subst hie
        rw [List.take_length]
        have HBE : Hid ((cl.count 0 : Int) = ((bytes S).countP isSp : Nat)) := by unfold Hid; rw [HB1.out]
        clear HB1
        generalize cl.count 0 = cn at *
        go_wp2_with fail
        go_loop [11, 13] (fun s11 s13 => ∃ i : Nat, s13 = .int .i64 i ∧ i ≤ S.size ∧ s11 = .int .i64 (((bytes S).take i).countP isSp : Nat)) (fun _ s13 => S.size - (intOf s13).toNat)
        case atStart => exact ⟨0, rfl, Nat.zero_le _, rfl⟩
        case round =>
          obtain ⟨i, rfl, hi1, rfl⟩ := hrel
          by_cases hlt : i < S.size
          · have HAT := Lib.hid (bytes_at S i hlt)
            have hx8 := bytes_lt S _ (List.mem_of_getElem? (bytes_at S i hlt))
            have HCT := Lib.hid (countP_step (bytes_at S i hlt))
            have hcnt : ((bytes S).take i).countP isSp ≤ i := Nat.le_trans List.countP_le_length (by simp; omega)
            have HI := Lib.hid hlt
            generalize hxe : (S[i]'hlt).toNat = y at *
            have HXE := Lib.hid hxe
            obtain ⟨c, hc⟩ : ∃ c, isSp y = c := ⟨_, rfl⟩
            have HC := Lib.hid hc
            rw [hc] at HCT
            clear hc
            generalize ((bytes S).take i).countP isSp = sn at *
            go_wp2_with fail
            refine (rSpace_any _ (by omega) (by omega) _).mono ?_
            rintro e w' ⟨rfl, rfl⟩
            rw [show isSpI y = c from HC.out]
            cases c
            · go_wp2_with fail
              exact ⟨⟨i + 1, by go_num, HI.out, by rw [HCT.out]; rfl⟩, by have := HI.out; simp [intOf]; omega⟩
            · go_wp2_with fail
              exact ⟨⟨i + 1, by go_num, HI.out, by rw [HCT.out]; rfl⟩, by have := HI.out; simp [intOf]; omega⟩
          · have hie : i = S.size := by omega
            subst hie
            rw [List.take_of_length_le (by rw [bytes_len]; exact Nat.le_refl _)]
            have e0 : ((cn : Int) == (((bytes S).countP isSp : Nat) : Int)) = true := by rw [HBE.out]; exact beq_self_eq_true _
            generalize ((bytes S).countP isSp : Nat) = sn at *
            go_wp2_with fail
            refine (rIsText_any S _ (by omega)).mono ?_
            rintro e w' ⟨rfl, rfl⟩
            rw [HB2.out]
            go_wp2_with fail
            go_ret
            exact ⟨rfl, B6.out⟩
end Go.Proofs.Ytkjlpmkhifjmdaa

/-! law03.AutomatonBlanks: the row. -/
namespace Go.Proofs.Ytkjlpmkhifjmdaa
open Go.ChangeShapes Go.WideShapes Go.ChangeAt Go.WideMaps Go.WideElems Go.RowKit

theorem own : ownKnob Try.prog.godebug = none := by kernel_rfl
theorem laidOut : laidOutB Try.prog = true := by kernel_rfl
set_option maxRecDepth 100000 in
theorem lifted (os : Os) (started : os.Started) (H : Type) (enc : TypeId × Value → H) :
    ReturnsInHanded {} Try.checked os 8 .any (Rows.automatonBlanksSpec.pre6 enc Try.prog Try.f8 Rows.automatonBlanksRow.domain false) (Rows.automatonBlanksSpec.post enc Try.prog Try.f8 false true false false) := by
  refine returnsInHanded_of_change (C := Try.checked) own started (by kernel_rfl) Try.func8
    (ChangeSpec.witness6 (enc := enc) (C := Try.checked) false ⟨#[], #[.agg #[.int .u8 0, .int .u8 0, .slice none 0 0], .slice none 0 0], []⟩ 8 (by kernel_rfl) (by kernel_rfl) (by kernel_rfl) (by kernel_rfl)) ?_
  intro W base args ds gs before hval0 hW hcnd _
  have hval : ∀ (j : Nat) t v, Try.f8.params[j]? = some t → args[j]? = some v → Value.okWide Try.prog W .any base t v := hval0
  have hW' := hW
  obtain ⟨p, q, hA0, hV, rfl, hfz, hnd⟩ := hW
  have hA : DataW.TrodAll enc Try.prog W 0 (fun _ => true) true Try.f8.params.toList args.toList ds p := hA0
  rw [Try.params8] at hA hval
  obtain ⟨v0, vs0, d0, ds0, p0, q0, hargs, rfl, rfl, h0, r0⟩ := trodAll_cons hA
  obtain ⟨v1, vs1, d1, ds1, p1, q1, rfl, rfl, rfl, h1, r1⟩ := trodAll_cons r0
  obtain ⟨rfl, rfl, rfl⟩ := trodAll_nil r1
  obtain rfl : args = #[v0, v1] := by cases args; simp_all
  obtain ⟨rfl, rfl⟩ := trodVars_none hV
  have k0 := h0
  have lt0 : ∀ x ∈ p0, x.block < W.heap.size := by obtain ⟨m, hm⟩ := k0; exact DataW.trod_lt m _ _ _ hm
  have k1 := h1
  have lt1 : ∀ x ∈ p1, x.block < W.heap.size := by obtain ⟨m, hm⟩ := k1; exact DataW.trod_lt m _ _ _ hm
  obtain ⟨bs, dr, A, n, k, rfl, hr0, hbs, hdr⟩ := open_raw (hval 0 24 v0 rfl rfl) h0
  obtain ⟨XA1, xk1, xs1, rfl, hx1, hz1⟩ := open_bytesL (hval 1 50 v1 rfl rfl) h1
  clear hA0 hval0
  refine (walk_blanks bs dr A n k XA1 xk1 xs1 W hr0 hbs hdr hx1 hz1).mono fun e W' ⟨he, bel⟩ => ?_
  subst he
  exact ⟨_, rfl, _, _, _, [], _, [], hW', trodAll_mk1 (shut_bool Try.underlying4 _), (trodAll_cons_mk (Below.trod laidOut (by kernel_rfl) (of_decide_eq_true (by kernel_rfl)) k0 bel lt0) (trodAll_cons_mk (Below.trod laidOut (by kernel_rfl) (of_decide_eq_true (by kernel_rfl)) k1 bel lt1) trodAll_mk0)), rfl, bel.frame _, fun h => by cases h⟩

theorem over : Rows.automatonBlanksRow.holds Try.pinned (OpenSpec.ofChange Rows.automatonBlanksSpec) :=
  OpenClaim.holds_of_wide 8 Try.f8 rfl rfl rfl rfl rfl rfl rfl ⟨rfl, rfl, rfl, rfl, rfl⟩ rfl rfl rfl rfl rfl (by kernel_rfl) Try.func8 (by kernel_rfl)
    (of_decide_eq_true (by kernel_rfl)) (by unfold Func.isWrapper; first | (rw [if_pos (by decide +kernel)]; kernel_rfl) | (rw [if_neg (by decide +kernel)]; exact ⟨rfl, rfl⟩))
    (fun os started H enc _ => lifted os started H enc)

theorem proved : Rows.AutomatonBlanksSaid := over
end Go.Proofs.Ytkjlpmkhifjmdaa
