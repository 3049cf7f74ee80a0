/- P2.4: for every description of a table, TableRoundTrips returns true: Format agrees with the reference, and Parse gives back the table whose text it reads. No condition, but what the row's own premises say of the arguments and of the library's variables. -/
import Derived.Test.YtiedaongfjcbhabGreatDoorFrameT
import Derived.Test.YtiedaongfjcbhabGreatDoorOpenR
import Derived.Test.YtiedaongfjcbhabGreatDoorRt4
import Derived.Test.YtiedaongfjcbhabGreatDoorRawUp
import Derived.Deep.CutBlock
import Derived.Deep.CutRange
namespace Go.Proofs.YtiedaongfjcbhabGreatDoor
open Go.ChangeShapes Go.WideShapes Go.ChangeAt Go.WideMaps Go.WideElems Go.RowKit

theorem table_size {m a : Int} {rs : List Rule} (hm : 0 ≤ m ∧ m < 1000) (ha : 0 ≤ a ∧ a < 256) (hr : ∀ x ∈ rs, x.plain) (hl : rs.length ≤ 10) : (fmtTable m a rs).length ≤ 800000 := by
  have h1 := flat_bound rs hr rs.length
  rw [List.take_length] at h1
  have h2 := itoa_len hm.1 hm.2
  have h3 := itoa_len ha.1 (show a < 1000 by omega)
  rw [strU_size] at h2 h3
  rw [fmtTable_eq]
  unfold headN modesW acceptW
  simp only [List.length_append, List.length_cons, List.length_nil]
  omega
theorem parse_done {l : List UInt8} {w w' : World} {e : Ending} {m a : Int} {rs : List Rule} (h : ParseEnd l w e w') (hp : parseT l = .done m a rs) (hc : chkE m a rs = 0) :
    Below w.heap.size w w' ∧ ∃ A k, rs.length ≤ k ∧ e = .returned (.tuple #[.agg #[.int .i64 m, .int .u8 a, .slice A rs.length k], .int .i64 0, .int .i64 0]) ∧ Rules w' w'.heap.size A rs := by
  obtain ⟨hb, h2⟩ := h
  rw [hp] at h2
  simp only at h2
  rw [if_pos hc] at h2
  exact ⟨hb, h2.2⟩
set_option maxRecDepth 10000 in
set_option maxHeartbeats 2000000 in
theorem walk_round (bs dr : Int) (A : Option Addr) (n k : Nat) (w : World) (hW : RawMs w w.heap.size A n) (hbs : 0 ≤ bs ∧ bs < 256) (hdr : 0 ≤ dr ∧ dr < 256) (hL : Laid w) :
    Calls Tryz.prog 3 #[.agg #[.int .u8 bs, .int .u8 dr, .slice A n k]] w fun e w' => e = .returned (.bool true) ∧ Below w.heap.size w w' := by
  obtain ⟨g, hg⟩ : ∃ g, w.heap.size = g := ⟨_, rfl⟩
  have V0A : Hid (Blk (w.alloc (.cells #[.int .u8 bs, .int .u8 dr, .slice A n k] 24)) g 24 #[.int .u8 bs, .int .u8 dr, .slice A n k]) := by
    unfold Hid; rw [← hg]; exact Blk.new w _ _
  have V0B : Hid (Below w.heap.size w (w.alloc (.cells #[.int .u8 bs, .int .u8 dr, .slice A n k] 24))) := (Below.refl _ _).alloc (Nat.le_refl _) _
  have V0L := Lib.hid (hL.keep V0B.out)
  have HW := Lib.hid hW
  have HL := Lib.hid hL
  clear hL hW
  go_enter Tryz.func3, Tryz.ntmps3
  go_wp2_with fail
  generalize w.alloc (.cells #[.int .u8 bs, .int .u8 dr, .slice A n k] 24) = V0 at *
  refine (sanity_any _ V0L.out).mono ?_
  rintro e w1 ⟨rfl, hb1⟩
  have A1 := Lib.hid (V0A.out.keep hb1 (Blk.lt V0A.out))
  have B1 : Hid (Below w.heap.size w w1) := below_next V0B.out hb1
  clear hb1 V0A V0B V0L
  have a0 := A1.out.cell 0
  have a1 := A1.out.cell 1
  have a2 := A1.out.cell 2
  simp only [List.getElem?_toArray, List.getElem?_cons_zero, List.getElem?_cons_succ] at a0 a1 a2
  go_wp2_with fail
  have HW1 : RawMs w1 w1.heap.size A n := HW.out.up B1.out
  refine (made_any w1 A n k bs dr HW1 hbs hdr).mono ?_
  rintro e w2 ⟨m, a, rs, v, rfl, hM, hG, hl10, hm12, ha, hb2⟩
  obtain ⟨A2, k2, rfl, hR2, hk2⟩ := (Made.b hM).rules
  obtain ⟨hnice, hplain, hm8, hchk⟩ := good_facts hG hR2.fit
  have hm : 0 ≤ m ∧ m < 1000 := by omega
  have hsz := table_size hm ha hplain hl10
  have PR := Lib.hid (table_read hm ha hnice)
  have HC := Lib.hid hchk
  have HNI := Lib.hid (fun x hx => And.intro (hnice x hx) (hplain x hx))
  have HPL := Lib.hid hplain
  have R2 := Lib.hid hR2
  have B2 : Hid (Below w.heap.size w w2) := below_next B1.out hb2
  have hl : rs.length ≤ 1000 := by omega
  clear hb2 hM hG hR2 hnice hplain hchk hk2 a0 a1 a2 HW1 B1 A1
  obtain ⟨g2, hg2⟩ : ∃ g2, w2.heap.size = g2 := ⟨_, rfl⟩
  go_wp2_with fail
  have BA : Hid (Below w2.heap.size w2 (w2.alloc (.cells #[.int .i64 m, .int .u8 a, .slice A2 rs.length k2] 28))) := below_box _ _ _
  have T3 : Hid (Blk (w2.alloc (.cells #[.int .i64 m, .int .u8 a, .slice A2 rs.length k2] 28)) g2 28 #[.int .i64 m, .int .u8 a, .slice A2 rs.length k2]) := by
    unfold Hid; rw [← hg2]; exact Blk.new w2 _ _
  have R3 := Lib.hid (R2.out.up BA.out)
  have B3 : Hid (Below w.heap.size w (w2.alloc (.cells #[.int .i64 m, .int .u8 a, .slice A2 rs.length k2] 28))) := below_next B2.out BA.out
  generalize w2.alloc (.cells #[.int .i64 m, .int .u8 a, .slice A2 rs.length k2] 28) = w3 at *
  clear BA R2 B2
  refine (format_any A2 rs.length k2 m a rs w3 rfl R3.out hl ha (by omega) HPL.out (HL.out.keep B3.out)).mono ?_
  rintro e w4 ⟨rfl, hb4⟩
  have T4 := Lib.hid (T3.out.keep hb4 (Blk.lt T3.out))
  have R4 := Lib.hid (R3.out.up hb4)
  have B4 : Hid (Below w.heap.size w w4) := below_next B3.out hb4
  clear hb4 T3 R3 B3
  obtain ⟨tx, htx⟩ : ∃ tx, strU (fmtTable m a rs) = tx := ⟨_, rfl⟩
  have hts : tx.size < 2 ^ 30 := by rw [← htx, strU_size]; omega
  have HTX := Lib.hid htx
  rw [htx]
  clear htx hsz
  go_wp2_with fail
  refine (parseTab_any tx w4 hts (HL.out.keep B4.out)).mono ?_
  intro e w5 hpe
  have hpe2 : ParseEnd (fmtTable m a rs) w4 e w5 := by rw [← strU_data (fmtTable m a rs), HTX.out]; exact hpe
  obtain ⟨hb5, A5, k5, hk5, rfl, hR5⟩ := parse_done hpe2 PR.out HC.out
  have T5 := Lib.hid (T4.out.keep hb5 (Blk.lt T4.out))
  have R5 := Lib.hid (R4.out.up hb5)
  have U5 := Lib.hid hR5
  have B5 : Hid (Below w.heap.size w w5) := below_next B4.out hb5
  clear hb5 T4 R4 B4 hpe hpe2 hR5
  go_upto_region 5 with fail
  have BA : Hid (Below w5.heap.size w5 (w5.alloc (.cells #[.int .i64 m, .int .u8 a, .slice A5 rs.length k5] 28))) := below_box _ _ _
  have U6 : Hid (Blk (w5.alloc (.cells #[.int .i64 m, .int .u8 a, .slice A5 rs.length k5] 28)) w5.heap.size 28 #[.int .i64 m, .int .u8 a, .slice A5 rs.length k5]) := Blk.new w5 _ _
  have T6 := Lib.hid (T5.out.keep BA.out (Blk.lt T5.out))
  have R6 := Lib.hid (R5.out.up BA.out)
  have Q6 := Lib.hid (U5.out.up BA.out)
  have B6 : Hid (Below w.heap.size w (w5.alloc (.cells #[.int .i64 m, .int .u8 a, .slice A5 rs.length k5] 28))) := below_next B5.out BA.out
  generalize w5.alloc (.cells #[.int .i64 m, .int .u8 a, .slice A5 rs.length k5] 28) = w6 at *
  obtain ⟨g5, hg5⟩ : ∃ g5, w5.heap.size = g5 := ⟨_, rfl⟩
  rw [hg5] at U6 ⊢
  clear BA T5 R5 U5 B5
  have t0 := T6.out.cell 0
  have t1 := T6.out.cell 1
  have t2 := T6.out.cell 2
  have s0 := U6.out.cell 0
  have s1 := U6.out.cell 1
  have s2 := U6.out.cell 2
  simp only [List.getElem?_toArray, List.getElem?_cons_zero, List.getElem?_cons_succ] at t0 t1 t2 s0 s1 s2
  go_wp2_with fail
  refine (rFormat_any A2 rs.length k2 m a rs w6 rfl R6.out hl10 ha hm HNI.out).mono ?_
  rintro e w7 ⟨rfl, hb7⟩
  rw [HTX.out]
  have T7 := Lib.hid (T6.out.keep hb7 (Blk.lt T6.out))
  have U7 := Lib.hid (U6.out.keep hb7 (Blk.lt U6.out))
  have R7 := Lib.hid (R6.out.up hb7)
  have Q7 := Lib.hid (Q6.out.up hb7)
  have B7 : Hid (Below w.heap.size w w7) := below_next B6.out hb7
  clear hb7 T6 U6 R6 Q6 B6 t0 t1 t2 s0 s1 s2
  have t0 := T7.out.cell 0
  have t1 := T7.out.cell 1
  have t2 := T7.out.cell 2
  have s0 := U7.out.cell 0
  have s1 := U7.out.cell 1
  have s2 := U7.out.cell 2
  simp only [List.getElem?_toArray, List.getElem?_cons_zero, List.getElem?_cons_succ] at t0 t1 t2 s0 s1 s2
  go_wp2_with fail
  refine (rSame_any A5 A2 rs.length k5 k2 m a rs w7 rfl Q7.out R7.out (by omega)).mono ?_
  rintro e w8 ⟨rfl, hb8⟩
  have B8 : Hid (Below w.heap.size w w8) := below_next B7.out hb8
  clear hb8 T7 U7 R7 Q7 B7 t0 t1 t2 s0 s1 s2
  go_wp2_with fail
  go_ret
  exact ⟨rfl, B8.out⟩
set_option maxRecDepth 100000 in
theorem lifted (os : Os) (started : os.Started) (H : Type) (enc : TypeId × Value → H) :
    ReturnsInHanded {} Tryz.checked os 3 .any (fun w args => (Rows.tableRoundTripsSpec.pre enc Tryz.prog Tryz.f3 [] false w args ∧ laidMetH Tryz.prog laidL w) ∧ sizedMet enc Tryz.prog Tryz.f3 (OpenSpec.ofChange Rows.tableRoundTripsSpec) false w args)
      (Rows.tableRoundTripsSpec.post enc Tryz.prog Tryz.f3 false true false false) := by
  refine returnsInHanded_of_change_and (C := Tryz.checked) (X := fun w _ => laidMetH Tryz.prog laidL w) (fun _ _ _ hh h => h.of_heap hh) own started (by kernel_rfl) Tryz.func3
    (ChangeSpec.witness_shaped (enc := enc) (C := Tryz.checked) (os := os) (X := fun w _ => laidMetH Tryz.prog laidL w) false (World.doorLaid Tryz.prog 400 os) #[.agg #[.int .u8 0, .int .u8 0, .slice none 0 0]] 8 rfl (World.shaped_of_RefB (by kernel_rfl) (by kernel_rfl)) (by kernel_rfl) (by kernel_rfl) (by kernel_rfl) (door_met os _)) ?_
  intro W base args ds gs before hval0 hW hcnd hsz0 hL _
  have hval : ∀ (j : Nat) t v, Tryz.f3.params[j]? = some t → args[j]? = some v → Value.okWide Tryz.prog W .any base t v := hval0
  have hW' := hW
  obtain ⟨p, q, hA0, hV, rfl, hfz, hnd⟩ := hW
  have hA : DataW.TrodAll enc Tryz.prog W 0 (fun _ => true) true Tryz.f3.params.toList args.toList ds p := hA0
  rw [Tryz.params3] at hA hval
  obtain ⟨v0, vs0, d0, ds0, p0, q0, hargs, rfl, rfl, h0, r0⟩ := trodAll_cons hA
  obtain ⟨rfl, rfl, rfl⟩ := trodAll_nil r0
  obtain rfl : args = #[v0] := by cases args; simp_all
  obtain ⟨rfl, rfl⟩ := trodVars_none hV
  have k0 := h0
  have lt0 : ∀ x ∈ p0, x.block < W.heap.size := by obtain ⟨m, hm⟩ := k0; exact DataW.trod_lt m _ _ _ hm
  obtain ⟨bs, dr, A, n, k, rfl, hr0, hbs, hdr⟩ := open_raw (hval 0 24 v0 rfl rfl) h0
  clear hA0 hval0
  refine (walk_round bs dr A n k W hr0 hbs hdr (of_laid hL)).mono fun e W' ⟨he, bel⟩ => ?_
  subst he
  exact ⟨_, rfl, _, _, _, [], _, [], hW', trodAll_mk1 (shut_bool Tryz.underlying4 _), (trodAll_cons_mk (Below.trod laidOut (by kernel_rfl) (of_decide_eq_true (by kernel_rfl)) k0 bel lt0) trodAll_mk0), rfl, bel.frame _, fun h => by cases h⟩

theorem over : Rows.TableRoundTripsSaid :=
  OpenClaim.holds_of_wide 3 Tryz.f3 rfl rfl rfl rfl rfl rfl rfl ⟨rfl, rfl, rfl, rfl, rfl⟩ rfl rfl rfl rfl rfl (by kernel_rfl) Tryz.func3 (by kernel_rfl)
    (of_decide_eq_true (by kernel_rfl)) (by unfold Func.isWrapper; first | (rw [if_pos (by decide +kernel)]; kernel_rfl) | (rw [if_neg (by decide +kernel)]; exact ⟨rfl, rfl⟩))
    (fun os started H enc _ => lifted os started H enc)

theorem proved : Rows.TableRoundTripsCardSaid :=
  Claim7.holds_tied_plain_at .later [] [.data, .data, .data, .sentinel, .sentinel] true (true, "292262042c35edbf07bcad9943f01068e8efc9589d8d29cd5ee0604b4e9699b2") true
    over (fun _ h => by cases h) (by kernel_rfl) (fun _ h => by cases h) tableRoundTrips_row_tie rfl ⟨rfl, rfl⟩ (by kernel_rfl) rfl
    (fun f fn hf hfn => by
      obtain rfl : f = 3 := Option.some.inj ((show Tryz.prog.funcNamed "sixdot/sixdotlaw02.TableRoundTrips" = some 3 by kernel_rfl).symm.trans hf) |>.symm
      obtain rfl : fn = Tryz.f3 := (Option.some.inj (Tryz.func3.symm.trans hfn)).symm
      exact ⟨by kernel_rfl, fun j t ht => by
        rw [Tryz.params3] at ht
        have hm : t ∈ [24] := by have := Array.mem_of_getElem? ht; simpa using this
        have hall : ([24].all fun u => !Tryz.prog.wantsStandIn u) = true := by kernel_rfl
        exact (show Tryz.prog.wantsStandIn t = false by simpa using List.all_eq_true.1 hall t hm)⟩)
    (by kernel_rfl)

end Go.Proofs.YtiedaongfjcbhabGreatDoor
