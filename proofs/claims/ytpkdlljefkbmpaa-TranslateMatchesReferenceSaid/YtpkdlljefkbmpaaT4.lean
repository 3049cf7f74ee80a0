/- Merged by program: Tr9 Tr10 -/
import Derived.Test.YtpkdlljefkbmpaaT3

/-! Package translate: whether a text has a path; the first rule that keeps a cost. -/
namespace Go.Proofs.Ytpkdlljefkbmpaa
open Go.RowKit Go.Maps
theorem field_mode (W : World) (x y z : Value) : (Instr.field 47 (.agg #[x, y, z]) 0).run Try.prog W = .ok x W := by kernel_rfl
section
variable {w0 w : World} {q : Nat} {m a : Int} {A : Option Addr} {n k : Nat} {rs : List Rule} {s : ByteArray} {PV SV : Value} {ps ss : List Nat} {cg M B1 : Nat} {g : Nat → Nat} {h : Tb}
theorem WkM.cost (H : WkM w0 q m a A n k rs s PV SV ps ss cg M B1 0 g h w) {i mo : Nat} (hi : i ≤ s.size) (hmo : mo < M) : w.cell? ⟨q, 6, none⟩ = some (.slice (some ⟨cg, 0, none⟩) (s.size + 1) (s.size + 1)) ∧ w.cell? ⟨cg, i, none⟩ = some (.slice (some ⟨g i, 0, none⟩) M M) ∧ w.cell? ⟨g i, mo, none⟩ = some (.int .i64 (h i mo : Nat)) := by
 refine ⟨H.wk.cell 6, ?_, ?_⟩
 ·
  have h1 := H.co.co.cell i
  rw [rowOf_get _ _ _ (by omega), if_pos (Nat.zero_le _)] at h1
  exact h1
 ·
  have h1 := (H.co.ro i (Nat.zero_le _) (by omega)).cell mo
  rw [rowOf_get _ _ _ hmo] at h1
  exact h1
end
set_option maxRecDepth 10000 in
set_option maxHeartbeats 4000000 in
theorem possible_any (w0 : World) (q : Nat) (m a : Int) (A : Option Addr) (n k : Nat) (rs : List Rule) (s : ByteArray) (PV SV : Value) (ps ss : List Nat) (cg M B1 : Nat) (g : Nat → Nat) (h : Tb) (w : World) (hm : 1 ≤ m ∧ m ≤ 8) (hM : m = M)
  (H : WkM w0 q m a A n k rs s PV SV ps ss cg M B1 0 g h w) :
  Calls Try.prog 72 #[.pointer (some ⟨q, 0, none⟩)] w fun e w' => e = .returned (.bool (decide (h 0 0 < imp))) ∧ Below w.heap.size w w' := by
 obtain ⟨c6, c0, r0⟩ := H.cost (i := 0) (mo := 0) (Nat.zero_le _) (by omega)
 have hMp : (0 : Int) < (M : Int) := by omega
 have hMn : 0 < M := by omega
 clear H
 obtain ⟨hv, hhv⟩ : ∃ hv, h 0 0 = hv := ⟨_, rfl⟩
 rw [hhv] at r0 ⊢
 clear hhv
 have HD : Hid (decide ((hv : Int) < 9223372036854775803) = decide (hv < imp)) := by
  unfold Hid
  rw [imp_lit, Bool.eq_iff_iff, decide_eq_true_eq, decide_eq_true_eq]
  omega
 have HST : Hid (∀ W : World, Calls Try.prog 93 #[] W fun e w' => e = .returned (.agg #[.int .i64 0, .int .i64 0, .int .u8 63]) ∧ Below W.heap.size W w') := fun W => start_any W
 have hfd := field_mode
 have hs1 : (0 : Int) < (s.size : Int) + 1 := by omega
 go_enter Try.func72, Try.ntmps72
 go_upto_region 1 with fail
 have hS : Below w.heap.size w w.drew ∧ w.drew.cell? ⟨q, 6, none⟩ = some (.slice (some ⟨cg, 0, none⟩) (s.size + 1) (s.size + 1)) ∧ w.drew.cell? ⟨cg, 0, none⟩ = some (.slice (some ⟨g 0, 0, none⟩) M M) ∧ w.drew.cell? ⟨g 0, 0, none⟩ = some (.int .i64 hv) := ⟨(Below.refl _ _).drew, c6, c0, r0⟩
 go_region_held3 (fun w' => Below w.heap.size w w' ∧ w'.cell? ⟨q, 6, none⟩ = some (.slice (some ⟨cg, 0, none⟩) (s.size + 1) (s.size + 1)) ∧ w'.cell? ⟨cg, 0, none⟩ = some (.slice (some ⟨g 0, 0, none⟩) M M) ∧ w'.cell? ⟨g 0, 0, none⟩ = some (.int .i64 hv)) (first | assumption | (apply kept3; (first | assumption | exact Below.drew (Below.refl _ _) | exact below_box _ _ _); assumption))
  (first | (go_at_call 93; refine (HST.out _).mono ?_; rintro e wa ⟨rfl, hba⟩))
 rename_i hheld
 go_wp2_with fail
 go_ret
 exact ⟨ret_bool HD.out, hheld.1⟩
def KeepEnd (J : Nat) (w : World) (e : Ending) (w' : World) : Prop := e = .returned (.int .i64 (J : Nat)) ∧ Below w.heap.size w w'
set_option maxRecDepth 10000 in
set_option maxHeartbeats 4000000 in
theorem keeping_any (w0 : World) (q : Nat) (m a : Int) (A : Option Addr) (n k : Nat) (rs : List Rule) (s : ByteArray) (PV SV : Value) (ps ss : List Nat) (cg M B1 : Nat) (g : Nat → Nat) (h : Tb) (i mo J : Nat) (w : World) (hn : rs.length = n) (hG : GoodL m a rs) (hm : 1 ≤ m ∧ m ≤ 8) (hM : m = M) (hmax : n ≤ 64) (hs : s.size < 2 ^ 40) (hi : i ≤ s.size) (hmo : mo < M)
  (H : WkM w0 q m a A n k rs s PV SV ps ss cg M B1 0 g h w) (hh : ∀ i' mo, i' ≤ s.size → mo < M → h i' mo ≤ imp) (hJ : KeepP rs (bytes s) h i mo J) (hJ2 : ∀ j, j < J → ¬ KeepP rs (bytes s) h i mo j) :
  Calls Try.prog 122 #[.pointer (some ⟨q, 0, none⟩), .int .i64 i, .int .i64 mo] w (KeepEnd J w) := by
 subst hn
 have hJn : J < rs.length := hJ.1
 have HH := Lib.hid H
 have HJ := Lib.hid hJ
 have HJ2 := Lib.hid hJ2
 have HG := Lib.hid hG
 have HHH := Lib.hid hh
 clear H hJ hJ2 hG hh
 go_enter Try.func122, Try.ntmps122
 go_wp2_with fail
 go_loopg [7] J (fun gk s7 wx => ∃ (j : Nat), j ≤ J ∧ gk = J - j ∧ s7 = .int .i64 j ∧ Below w.heap.size w wx)
 case atStart => exact ⟨0, Nat.zero_le _, rfl, rfl, Below.refl _ _⟩
 case round =>
  obtain ⟨j, hj, hgk, rfl, hb0⟩ := hrel
  have HB0 := Lib.hid hb0
  have HW := Lib.hid (HH.out.next hb0)
  have HGK := Lib.hid hgk
  clear hb0 hgk
  have hjl : j < rs.length := by omega
  have hj0 : (0 : Int) ≤ (j : Int) := by omega
  have hjn : (j : Int) < (rs.length : Int) := by omega
  have hi0 : (0 : Int) ≤ (i : Int) := by omega
  have hil : (i : Int) < (s.size : Int) + 1 := by omega
  have hu0 : (0 : Int) ≤ (mo : Int) := by omega
  have hul : (mo : Int) < (M : Int) := by omega
  have HBY0 := Lib.hid (fun (W : World) (hb : Below wr.heap.size wr W) => by_any q m a A rs.length k rs s PV SV cg (s.size + 1) M 0 g h i j W rfl (HW.out.next hb).rules HG.out hm hM hmax hs hi (Nat.zero_le _) hjl (HW.out.next hb).wk (HW.out.next hb).co (fun i' mo _ h2 h3 => HHH.out i' mo h2 h3))
  have HKP : Hid (KeepP rs (bytes s) h i mo j ↔ (rs[j].f = (mo : Int) ∧ byV h (bytes s) rs[j] i = h i mo)) := ⟨fun ⟨_, h1, h2⟩ => ⟨h1, h2⟩, fun ⟨h1, h2⟩ => ⟨hjl, h1, h2⟩⟩
  obtain ⟨b, o, CA, ck, rfl, hb, c0, c1, c2, c3, c4, c5, hsq, hfit⟩ := rules_row HW.out.rules hjl
  clear hsq hfit c0 c1 c2 c3 c5
  have w2 := HW.out.wk.cell 2
  have HQL := Lib.hid HW.out.wk.lt
  have HCL := Lib.hid HW.out.co.co.lt
  have HGL := Lib.hid (HW.out.co.ro i (Nat.zero_le _) (by omega)).lt
  obtain ⟨w6, c0, r0⟩ := HW.out.cost (i := i) (mo := mo) hi hmo
  simp only [List.getElem?_toArray, List.getElem?_cons_zero, List.getElem?_cons_succ] at w2
  generalize g i = gi at *
  generalize h i mo = hv at *
  generalize byV h (bytes s) rs[j] i = v at *
  generalize rs[j].f = f at *
  have HBY : Hid (∀ W, Below wr.heap.size wr W → Calls Try.prog 157 #[.pointer (some ⟨q, 0, none⟩), .int .i64 j, .int .i64 i] W fun e w' => e = .returned (.int .i64 (v : Nat)) ∧ Below W.heap.size W w') := HBY0.out
  clear HBY0
  generalize wr = W at *
  have hfs : f = (mo : Int) ∨ f ≠ (mo : Int) := by omega
  rcases hfs with hfm | hfm
  ·
   subst hfm
   obtain ⟨bb, hbb⟩ : ∃ bb, ((v : Int) != (hv : Int)) = bb := ⟨_, rfl⟩
   have HBB := Lib.hid hbb
   clear hbb
   have hmm : ((mo : Int) != (mo : Int)) = false := by simp
   go_upto_region 2 with fail
   refine wp_region_head 27 0 (by kernel_rfl) (fun y => (.pointer (some ⟨q, 0, none⟩)) :: (.int .i64 ↑i) :: (.int .i64 ↑mo) :: undef :: undef :: undef :: (.int .i64 0) :: (.int .i64 ↑j) :: y 0 :: y 1 :: y 2 :: y 3 :: y 4 :: y 5 :: y 6 :: y 7 :: y 8 :: y 9 :: y 10 :: y 11 :: y 12 :: y 13 :: y 14 :: y 15 :: y 16 :: y 17 :: y 18 :: y 19 :: y 20 :: y 21 :: y 22 :: y 23 :: y 24 :: y 25 :: y 26 :: u35 :: u36 :: u37 :: undef :: [])
    (fun _ w' => Below W.heap.size W w') (phiP [pv (.pointer (some ⟨q, 0, none⟩)), pv (.pointer (some ⟨q, 0, none⟩)), pv (.pointer (some ⟨q, 0, none⟩)), pv (.pointer (some ⟨q, 2, none⟩)), pv (.slice (some ⟨b, o, none⟩) rs.length k), pv (.int .i64 j), pv (.pointer (some ⟨b, o + j * 6, none⟩)), pv (.pointer (some ⟨b, o + j * 6 + 4, none⟩)), pv (.int .i64 mo), pv (.int .i64 mo), pv (.bool false), pv (.bool false), pv (.pointer (some ⟨q, 0, none⟩)), pv (.int .i64 j), pv (.int .i64 i), pv (.int .i64 v), pv (.pointer (some ⟨q, 0, none⟩)), pv (.pointer (some ⟨q, 0, none⟩)), pv (.pointer (some ⟨q, 6, none⟩)), pv (.slice (some ⟨cg, 0, none⟩) (s.size + 1) (s.size + 1)), pv (.int .i64 i), pv (.pointer (some ⟨cg, i, none⟩)), pv (.slice (some ⟨gi, 0, none⟩) M M), pv (.int .i64 mo), pv (.pointer (some ⟨gi, mo, none⟩)), pv (.int .i64 hv), pv (.bool bb)]) (fun i => match i with | 0 => u8 | 1 => u9 | 2 => u10 | 3 => u11 | 4 => u12 | 5 => u13 | 6 => u14 | 7 => u15 | 8 => u16 | 9 => u17 | 10 => u18 | 11 => u19 | 12 => u20 | 13 => u21 | 14 => u22 | 15 => u23 | 16 => u24 | 17 => u25 | 18 => u26 | 19 => u27 | 20 => u28 | 21 => u29 | 22 => u30 | 23 => u31 | 24 => u32 | 25 => u33 | 26 => u34 | _ => undef)
    (by kernel_rfl) (by kernel_rfl) (by kernel_rfl) (by kernel_rfl) (fun i v wa wb h hb => phiP_keep (stay_cons (pv_st) (stay_cons (pv_st) (stay_cons (pv_st) (stay_cons (pv_st) (stay_cons (pv_st) (stay_cons (pv_st) (stay_cons (pv_st) (stay_cons (pv_st) (stay_cons (pv_st) (stay_cons (pv_st) (stay_cons (pv_st) (stay_cons (pv_st) (stay_cons (pv_st) (stay_cons (pv_st) (stay_cons (pv_st) (stay_cons (pv_st) (stay_cons (pv_st) (stay_cons (pv_st) (stay_cons (pv_st) (stay_cons (pv_st) (stay_cons (pv_st) (stay_cons (pv_st) (stay_cons (pv_st) (stay_cons (pv_st) (stay_cons (pv_st) (stay_cons (pv_st) (stay_cons (pv_st) stay_nil))))))))))))))))))))))))))) h hb) (Below.refl _ _).drew [0, 1, 2, 3, 4, 5, 6, 7, 8, 9, 10, 11, 12, 13, 14, 15, 16, 17, 18, 19, 20, 21, 22, 23, 24, 25, 26] (by kernel_rfl) ?_ ?_
   ·
    refine allCons ?_ (allCons ?_ (allCons ?_ (allCons ?_ (allCons ?_ (allCons ?_ (allCons ?_ (allCons ?_ (allCons ?_ (allCons ?_ (allCons ?_ (allCons ?_ (allCons ?_ (allCons ?_ (allCons ?_ (allCons ?_ (allCons ?_ (allCons ?_ (allCons ?_ (allCons ?_ (allCons ?_ (allCons ?_ (allCons ?_ (allCons ?_ (allCons ?_ (allCons ?_ (allCons ?_ (allNil)))))))))))))))))))))))))))
    all_goals intro y w10 K hS hd hK
    ·
     refine wpOp_step rfl (fun K2 hK2 => ?_)
     go_simp
     exact hK2 _ _ (hK _ _ hS rfl (Below.refl _ _))
    ·
     have e0 : y 0 = _ := hd 0 rfl
     obtain ⟨y, rfl⟩ := upd_at (y := y) (i := 0) e0
     dsimp [upd]
     refine wpOp_step rfl (fun K2 hK2 => ?_)
     go_simp
     exact hK2 _ _ (hK _ _ hS rfl (Below.refl _ _))
    ·
     have e1 : y 1 = _ := hd 1 rfl
     obtain ⟨y, rfl⟩ := upd_at (y := y) (i := 1) e1
     dsimp [upd]
     refine wpOp_step rfl (fun K2 hK2 => ?_)
     go_simp
     exact hK2 _ _ (hK _ _ hS rfl (Below.refl _ _))
    ·
     have e2 : y 2 = _ := hd 2 rfl
     obtain ⟨y, rfl⟩ := upd_at (y := y) (i := 2) e2
     dsimp [upd]
     refine wpOp_step rfl (fun K2 hK2 => ?_)
     go_simp
     exact hK2 _ _ (hK _ _ hS rfl (Below.refl _ _))
    ·
     have e3 : y 3 = _ := hd 3 rfl
     obtain ⟨y, rfl⟩ := upd_at (y := y) (i := 3) e3
     dsimp [upd]
     have q2 := (hS.cell (p := ⟨q, 2, none⟩) HQL.out).trans w2
     refine wpOp_step rfl (fun K2 hK2 => ?_)
     go_simp
     exact hK2 _ _ (hK _ _ hS rfl (Below.refl _ _))
    ·
     refine wpOp_step rfl (fun K2 hK2 => ?_)
     go_simp
     exact hK2 _ _ (hK _ _ hS rfl (Below.refl _ _))
    ·
     have e4 : y 4 = _ := hd 4 rfl
     have e5 : y 5 = _ := hd 5 rfl
     obtain ⟨y, rfl⟩ := upd_at (y := y) (i := 4) e4
     obtain ⟨y, rfl⟩ := upd_at (y := y) (i := 5) e5
     dsimp [upd]
     refine wpOp_step rfl (fun K2 hK2 => ?_)
     go_simp
     exact hK2 _ _ (hK _ _ hS rfl (Below.refl _ _))
    ·
     have e6 : y 6 = _ := hd 6 rfl
     obtain ⟨y, rfl⟩ := upd_at (y := y) (i := 6) e6
     dsimp [upd]
     refine wpOp_step rfl (fun K2 hK2 => ?_)
     go_simp
     exact hK2 _ _ (hK _ _ hS rfl (Below.refl _ _))
    ·
     have e7 : y 7 = _ := hd 7 rfl
     obtain ⟨y, rfl⟩ := upd_at (y := y) (i := 7) e7
     dsimp [upd]
     have q3 := (hS.cell (p := ⟨b, o + j * 6 + 4, none⟩) hb).trans c4
     refine wpOp_step rfl (fun K2 hK2 => ?_)
     go_simp
     exact hK2 _ _ (hK _ _ hS rfl (Below.refl _ _))
    ·
     refine wpOp_step rfl (fun K2 hK2 => ?_)
     go_simp
     exact hK2 _ _ (hK _ _ hS rfl (Below.refl _ _))
    ·
     have e8 : y 8 = _ := hd 8 rfl
     have e9 : y 9 = _ := hd 9 rfl
     obtain ⟨y, rfl⟩ := upd_at (y := y) (i := 8) e8
     obtain ⟨y, rfl⟩ := upd_at (y := y) (i := 9) e9
     dsimp [upd]
     refine wpOp_step rfl (fun K2 hK2 => ?_)
     go_simp
     exact hK2 _ _ (hK _ _ hS rfl (Below.refl _ _))
    ·
     have e10 : y 10 = _ := hd 10 rfl
     obtain ⟨y, rfl⟩ := upd_at (y := y) (i := 10) e10
     dsimp [upd]
     refine wpOp_step rfl (fun K2 hK2 => ?_)
     go_simp
     exact hK2 _ _ (hK _ _ hS rfl (Below.refl _ _))
    ·
     have e11 : y 11 = _ := hd 11 rfl
     obtain ⟨y, rfl⟩ := upd_at (y := y) (i := 11) e11
     dsimp [upd]
     refine wpOp_step rfl (fun K2 hK2 => ?_)
     go_simp
     exact hK2 _ _ (hK _ _ hS rfl (Below.refl _ _))
    ·
     have e11 : y 11 = _ := hd 11 rfl
     obtain ⟨y, rfl⟩ := upd_at (y := y) (i := 11) e11
     dsimp [upd]
     refine wpOp_step rfl (fun K2 hK2 => ?_)
     go_simp
     exact hK2 _ _ (hK _ _ hS rfl (Below.refl _ _))
    ·
     have e11 : y 11 = _ := hd 11 rfl
     obtain ⟨y, rfl⟩ := upd_at (y := y) (i := 11) e11
     dsimp [upd]
     refine wpOp_step rfl (fun K2 hK2 => ?_)
     go_simp
     exact hK2 _ _ (hK _ _ hS rfl (Below.refl _ _))
    ·
     have e11 : y 11 = _ := hd 11 rfl
     have e12 : y 12 = _ := hd 12 rfl
     have e13 : y 13 = _ := hd 13 rfl
     have e14 : y 14 = _ := hd 14 rfl
     obtain ⟨y, rfl⟩ := upd_at (y := y) (i := 11) e11
     obtain ⟨y, rfl⟩ := upd_at (y := y) (i := 12) e12
     obtain ⟨y, rfl⟩ := upd_at (y := y) (i := 13) e13
     obtain ⟨y, rfl⟩ := upd_at (y := y) (i := 14) e14
     dsimp [upd]
     refine wpOp_step rfl (fun K2 hK2 => ?_)
     go_simp
     refine (HBY.out w10 hS).mono ?_
     rintro e' w2 ⟨rfl, hb2⟩
     exact hK2 _ _ (hK _ _ (below_next hS hb2) rfl hb2)
    ·
     have e11 : y 11 = _ := hd 11 rfl
     obtain ⟨y, rfl⟩ := upd_at (y := y) (i := 11) e11
     dsimp [upd]
     refine wpOp_step rfl (fun K2 hK2 => ?_)
     go_simp
     exact hK2 _ _ (hK _ _ hS rfl (Below.refl _ _))
    ·
     have e11 : y 11 = _ := hd 11 rfl
     have e16 : y 16 = _ := hd 16 rfl
     obtain ⟨y, rfl⟩ := upd_at (y := y) (i := 11) e11
     obtain ⟨y, rfl⟩ := upd_at (y := y) (i := 16) e16
     dsimp [upd]
     refine wpOp_step rfl (fun K2 hK2 => ?_)
     go_simp
     exact hK2 _ _ (hK _ _ hS rfl (Below.refl _ _))
    ·
     have e11 : y 11 = _ := hd 11 rfl
     have e17 : y 17 = _ := hd 17 rfl
     obtain ⟨y, rfl⟩ := upd_at (y := y) (i := 11) e11
     obtain ⟨y, rfl⟩ := upd_at (y := y) (i := 17) e17
     dsimp [upd]
     refine wpOp_step rfl (fun K2 hK2 => ?_)
     go_simp
     exact hK2 _ _ (hK _ _ hS rfl (Below.refl _ _))
    ·
     have e11 : y 11 = _ := hd 11 rfl
     have e18 : y 18 = _ := hd 18 rfl
     obtain ⟨y, rfl⟩ := upd_at (y := y) (i := 11) e11
     obtain ⟨y, rfl⟩ := upd_at (y := y) (i := 18) e18
     dsimp [upd]
     have q6 := (hS.cell (p := ⟨q, 6, none⟩) HQL.out).trans w6
     refine wpOp_step rfl (fun K2 hK2 => ?_)
     go_simp
     exact hK2 _ _ (hK _ _ hS rfl (Below.refl _ _))
    ·
     have e11 : y 11 = _ := hd 11 rfl
     obtain ⟨y, rfl⟩ := upd_at (y := y) (i := 11) e11
     dsimp [upd]
     refine wpOp_step rfl (fun K2 hK2 => ?_)
     go_simp
     exact hK2 _ _ (hK _ _ hS rfl (Below.refl _ _))
    ·
     have e11 : y 11 = _ := hd 11 rfl
     have e19 : y 19 = _ := hd 19 rfl
     have e20 : y 20 = _ := hd 20 rfl
     obtain ⟨y, rfl⟩ := upd_at (y := y) (i := 11) e11
     obtain ⟨y, rfl⟩ := upd_at (y := y) (i := 19) e19
     obtain ⟨y, rfl⟩ := upd_at (y := y) (i := 20) e20
     dsimp [upd]
     refine wpOp_step rfl (fun K2 hK2 => ?_)
     go_simp
     exact hK2 _ _ (hK _ _ hS rfl (Below.refl _ _))
    ·
     have e11 : y 11 = _ := hd 11 rfl
     have e21 : y 21 = _ := hd 21 rfl
     obtain ⟨y, rfl⟩ := upd_at (y := y) (i := 11) e11
     obtain ⟨y, rfl⟩ := upd_at (y := y) (i := 21) e21
     dsimp [upd]
     have q7 := (hS.cell (p := ⟨cg, i, none⟩) HCL.out).trans c0
     refine wpOp_step rfl (fun K2 hK2 => ?_)
     go_simp
     exact hK2 _ _ (hK _ _ hS rfl (Below.refl _ _))
    ·
     have e11 : y 11 = _ := hd 11 rfl
     obtain ⟨y, rfl⟩ := upd_at (y := y) (i := 11) e11
     dsimp [upd]
     refine wpOp_step rfl (fun K2 hK2 => ?_)
     go_simp
     exact hK2 _ _ (hK _ _ hS rfl (Below.refl _ _))
    ·
     have e11 : y 11 = _ := hd 11 rfl
     have e22 : y 22 = _ := hd 22 rfl
     have e23 : y 23 = _ := hd 23 rfl
     obtain ⟨y, rfl⟩ := upd_at (y := y) (i := 11) e11
     obtain ⟨y, rfl⟩ := upd_at (y := y) (i := 22) e22
     obtain ⟨y, rfl⟩ := upd_at (y := y) (i := 23) e23
     dsimp [upd]
     refine wpOp_step rfl (fun K2 hK2 => ?_)
     go_simp
     exact hK2 _ _ (hK _ _ hS rfl (Below.refl _ _))
    ·
     have e11 : y 11 = _ := hd 11 rfl
     have e24 : y 24 = _ := hd 24 rfl
     obtain ⟨y, rfl⟩ := upd_at (y := y) (i := 11) e11
     obtain ⟨y, rfl⟩ := upd_at (y := y) (i := 24) e24
     dsimp [upd]
     have q8 := (hS.cell (p := ⟨gi, mo, none⟩) HGL.out).trans r0
     refine wpOp_step rfl (fun K2 hK2 => ?_)
     go_simp
     exact hK2 _ _ (hK _ _ hS rfl (Below.refl _ _))
    ·
     have e11 : y 11 = _ := hd 11 rfl
     have e15 : y 15 = _ := hd 15 rfl
     have e25 : y 25 = _ := hd 25 rfl
     obtain ⟨y, rfl⟩ := upd_at (y := y) (i := 11) e11
     obtain ⟨y, rfl⟩ := upd_at (y := y) (i := 15) e15
     obtain ⟨y, rfl⟩ := upd_at (y := y) (i := 25) e25
     dsimp [upd]
     have hbb := HBB.out
     refine wpOp_step rfl (fun K2 hK2 => ?_)
     go_simp
     exact hK2 _ _ (hK _ _ hS rfl (Below.refl _ _))
   ·
    intro y w10 f hS hd
    have e11 : y 11 = _ := hd 11 (by decide)
    have e26 : y 26 = _ := hd 26 (by decide)
    clear hd
    obtain ⟨y, rfl⟩ := upd_at (y := y) (i := 11) e11
    obtain ⟨y, rfl⟩ := upd_at (y := y) (i := 26) e26
    dsimp [upd]
    refine wpAny_one (i := 27) (by kernel_rfl) ?_
    refine wpOp_step rfl (fun K2 hK2 => ?_)
    go_simp
    refine hK2 _ _ ?_
    clear hK2 K2 e11 e26
    refine wpAny_done (by kernel_rfl) ?_ _
    have HS : Hid (Below w.heap.size w w10) := below_next HB0.out hS
    clear hS HW HB0 w2 w6 c0 r0 c4 HQL HCL HGL HBY hb
    cases bb with
    | false =>
     have hvv : v = hv := by
      have h1 := HBB.out
      rw [bne_eq_false_iff_eq] at h1
      omega
     have hjJ : j = J := by
      rcases Nat.lt_or_ge j J with h1 | h1
      ·
       exact absurd (HKP.out.2 ⟨rfl, hvv⟩) (HJ2.out j h1)
      ·
       omega
     subst hjJ
     clear hvv
     go_wp2_with fail
     go_ret
     exact ⟨rfl, HS.out⟩
    | true =>
     have hvv : v ≠ hv := fun e => by
      have h1 := HBB.out
      rw [e] at h1
      simp at h1
     have hjJ : j < J := by
      rcases Nat.lt_or_ge j J with h1 | h1
      ·
       exact h1
      ·
       obtain rfl : j = J := by omega
       exact absurd (HKP.out.1 HJ.out).2 hvv
     clear hvv
     go_wp2_with fail
     go_roundg (J - (j + 1))
     case measure => rw [HGK.out]; omega
     case rel => exact ⟨j + 1, hjJ, rfl, by go_num, HS.out⟩
  ·
   have hjJ : j < J := by
    rcases Nat.lt_or_ge j J with h1 | h1
    ·
     exact h1
    ·
     obtain rfl : j = J := by omega
     exact absurd (HKP.out.1 HJ.out).1 hfm
   have hmm : (f != (mo : Int)) = true := by rw [bne_iff_ne]; exact hfm
   have HS : Hid (Below w.heap.size w W.drew) := HB0.out.drew
   clear hfm
   go_upto_region 2 with fail
   go_region
   clear w2 w6 c0 r0 c4 HW HB0 HBY hb
   go_wp2_with fail
   go_roundg (J - (j + 1))
   case measure => rw [HGK.out]; omega
   case rel => exact ⟨j + 1, hjJ, rfl, by go_num, HS.out⟩
end Go.Proofs.Ytpkdlljefkbmpaa

/-! Package translate: the writing of a text that has a path. -/
namespace Go.Proofs.Ytpkdlljefkbmpaa
open Go.RowKit Go.Maps
theorem len_le_cst {m a : Int} {rs : List Rule} (hG : GoodL m a rs) {s : List Nat} : ∀ (ks : List Int) (v u : Nat × Int), goE (edgP rs s) v ks = some u → ks.length ≤ cstE (cstR rs) ks := by
 intro ks
 induction ks with
 | nil => intro v u _; exact Nat.zero_le _
 | cons k r ih =>
  intro v u h
  obtain ⟨x, h1, h2⟩ := goE_cons.1 h
  have := ih x u h2
  have := (edgP_cst hG v k x h1).1
  simp only [cstE, List.length_cons]
  omega
theorem top_small {m a : Int} {rs : List Rule} (hG : GoodL m a rs) {s : List Nat} {M : Nat} (hM : m = M) (hM1 : 1 ≤ M) (hM8 : M ≤ 8) {h : Tb} (T : TabOk a rs s M h) (hlt : h 0 0 < imp) : h 0 0 ≤ 4 * ((s.length + 1) * 8) := by
 obtain ⟨ks, h1, h2⟩ := T.real 0 0 (Nat.zero_le _) (by omega) hlt
 obtain ⟨ls, hls⟩ := minE_ex (c := cstR rs) ⟨ks, h1⟩
 have h3 := best_cost T (Nat.zero_le _) (by omega) hlt hls
 have h4 := minE_bound (L := nodesP s.length M) (C := 4) (edgP_cst hG)
  (fun v k u hv he => by
   obtain ⟨g1, g2, g3, _⟩ := edgP_ok hG (nodesP_mem.1 hv).1 he
   exact nodesP_mem.2 ⟨g1, g2, by omega⟩)
  (v := (0, ((0 : Nat) : Int))) (nodesP_mem.2 ⟨Nat.zero_le _, by decide, by show ((0 : Nat) : Int) < (M : Int); omega⟩) hls
 rw [nodesP_len] at h4
 have h5 : (s.length + 1) * M ≤ (s.length + 1) * 8 := Nat.mul_le_mul_left _ hM8
 omega
def cellsK (rs : List Rule) (ks : List Int) : List Int := ks.flatMap fun k => (ruleOf rs k).c
theorem cellsK_snoc {rs : List Rule} {ks : List Int} {j : Nat} (hj : j < rs.length) : cellsK rs (ks ++ [(j : Int)]) = cellsK rs ks ++ rs[j].c := by
 unfold cellsK
 rw [List.flatMap_append, List.flatMap_cons, List.flatMap_nil, List.append_nil, rule_at hj]
theorem cellsK_len (rs : List Rule) (ks : List Int) : (cellsK rs ks).length = cstE (cstR rs) ks := (cst_flat rs ks).symm
structure LW (B0 zl zr : Nat) (cs ks : List Int) (CV PV : Value) (w : World) : Prop where
 ho : Blk w zl 60 #[CV, PV]
 hz : Blk w zr 60 #[.slice none 0 0, .slice none 0 0]
 hc : w.ownsRow B0 96 1 CV cs.length (cs.map (Value.int .u8))
 hp : w.ownsRow B0 3 1 PV ks.length (ks.map (Value.int .i64))
 hn : zl ≠ zr
section
variable {B0 zl zr : Nat} {cs ks : List Int} {CV PV v : Value} {w w' : World}
theorem LW.next (H : LW B0 zl zr cs ks CV PV w) (hb : Below w.heap.size w w') : LW B0 zl zr cs ks CV PV w' := ⟨H.ho.keep hb H.ho.lt, H.hz.keep hb H.hz.lt, own_keep H.hc hb, own_keep H.hp hb, H.hn⟩
theorem LW.addK {k : Int} (H : LW B0 zl zr cs ks CV PV w) (ho : w'.ownsRow B0 3 1 v (ks.length + 1) (ks.map (Value.int .i64) ++ [.int .i64 k])) (hg : w.grownBy w' PV.ownBlock) : LW B0 zl zr cs (ks ++ [k]) CV v (w'.setCell ⟨zl, 1, none⟩ v) := by
 have h1 : Blk w' zl 60 #[CV, PV] := (hg.block zl H.ho.lt (own_ne3 H.hp H.ho (by decide)).symm).trans H.ho
 have h2 : Blk w' zr 60 #[.slice none 0 0, .slice none 0 0] := (hg.block zr H.hz.lt (own_ne3 H.hp H.hz (by decide)).symm).trans H.hz
 have h3 := own_other H.hc H.hp hg (by decide)
 refine ⟨h1.set 1 v, (Below.heap_setCell w' ⟨zl, 1, none⟩ v zr H.hn.symm).trans h2, own_set h3 h1 (by decide) v, ?_, H.hn⟩
 have h4 := own_set (i := 1) ho h1 (by decide) v
 simpa using h4
theorem LW.addC {x : List Int} (H : LW B0 zl zr cs ks CV PV w) (ho : w'.ownsRow B0 96 1 v (cs.length + x.length) (cs.map (Value.int .u8) ++ x.map (Value.int .u8))) (hg : w.grownBy w' CV.ownBlock) : LW B0 zl zr (cs ++ x) ks v PV (w'.setCell ⟨zl, 0, none⟩ v) := by
 have h1 : Blk w' zl 60 #[CV, PV] := (hg.block zl H.ho.lt (own_ne3 H.hc H.ho (by decide)).symm).trans H.ho
 have h2 : Blk w' zr 60 #[.slice none 0 0, .slice none 0 0] := (hg.block zr H.hz.lt (own_ne3 H.hc H.hz (by decide)).symm).trans H.hz
 have h3 := own_other H.hp H.hc hg (by decide)
 refine ⟨h1.set 0 v, (Below.heap_setCell w' ⟨zl, 0, none⟩ v zr H.hn.symm).trans h2, ?_, own_set h3 h1 (by decide) v, H.hn⟩
 have h4 := own_set (i := 0) ho h1 (by decide) v
 simpa using h4
end
def LstEnd (a : Int) (rs : List Rule) (l : List Nat) (w : World) (e : Ending) (w' : World) : Prop :=
 ∃ CA ck PA pk ks, e = .returned (.agg #[.slice CA (cellsK rs ks).length ck, .slice PA ks.length pk]) ∧ Seq w' w'.heap.size CA (cellsK rs ks) ∧ SeqN w' w'.heap.size PA ks ∧ BestE (edgP rs l) (cstR rs) (finP a l) (0, 0) ks ∧ Below w.heap.size w w'
set_option maxRecDepth 10000 in
set_option maxHeartbeats 4000000 in
theorem least_any (w0 : World) (q : Nat) (m a : Int) (A : Option Addr) (n k : Nat) (rs : List Rule) (s : ByteArray) (PV SV : Value) (ps ss : List Nat) (cg M B1 : Nat) (g : Nat → Nat) (h : Tb) (w : World) (hn : rs.length = n) (hG : GoodL m a rs) (hm : 1 ≤ m ∧ m ≤ 8) (hM : m = M) (hmax : n ≤ 64) (hs : s.size < 2 ^ 36)
  (H : WkM w0 q m a A n k rs s PV SV ps ss cg M B1 0 g h w) (T : TabOk a rs (bytes s) M h) (hlt : h 0 0 < imp) :
  Calls Try.prog 74 #[.pointer (some ⟨q, 0, none⟩)] w (LstEnd a rs (bytes s) w) := by
 subst hn hM
 have hsm := top_small hG rfl (by omega) (by omega) T hlt
 rw [bytes_len] at hsm
 have HG := Lib.hid hG
 have HH := Lib.hid H
 have HT := Lib.hid T
 have HP0 : Hid (Blk ((w.alloc (.cells #[.slice none 0 0, .slice none 0 0] 60)).alloc (.cells #[.slice none 0 0, .slice none 0 0] 60)) w.heap.size 60 #[.slice none 0 0, .slice none 0 0] ∧ Blk ((w.alloc (.cells #[.slice none 0 0, .slice none 0 0] 60)).alloc (.cells #[.slice none 0 0, .slice none 0 0] 60)) (w.heap.size + 1) 60 #[.slice none 0 0, .slice none 0 0] ∧ Below w.heap.size w ((w.alloc (.cells #[.slice none 0 0, .slice none 0 0] 60)).alloc (.cells #[.slice none 0 0, .slice none 0 0] 60))) := by
  have n2 := Blk.new (w.alloc (.cells #[.slice none 0 0, .slice none 0 0] 60)) #[.slice none 0 0, .slice none 0 0] 60
  have e : (w.alloc (.cells #[.slice none 0 0, .slice none 0 0] 60)).heap.size = w.heap.size + 1 := by simp
  rw [e] at n2
  exact ⟨(Blk.new _ _ _).box, n2, ((Below.refl _ _).alloc (Nat.le_refl _) _).alloc (by simp) _⟩
 have hfd := field_mode
 clear hG H T hlt
 go_enter Try.func74, Try.ntmps74
 go_upto_region 2 with fail
 have HB0 : Hid (LW w.heap.size (w.heap.size + 1) w.heap.size (cellsK rs []) [] (.slice none 0 0) (.slice none 0 0) ((w.alloc (.cells #[.slice none 0 0, .slice none 0 0] 60)).alloc (.cells #[.slice none 0 0, .slice none 0 0] 60))) := ⟨HP0.out.2.1, HP0.out.1, World.ownsRow_nil _ _ _ _, World.ownsRow_nil _ _ _ _, by omega⟩
 have HBV : Hid (Below w.heap.size w ((w.alloc (.cells #[.slice none 0 0, .slice none 0 0] 60)).alloc (.cells #[.slice none 0 0, .slice none 0 0] 60))) := HP0.out.2.2
 clear HP0
 generalize (w.alloc (.cells #[.slice none 0 0, .slice none 0 0] 60)).alloc (.cells #[.slice none 0 0, .slice none 0 0] 60) = V at *
 obtain ⟨zr, hzr⟩ : ∃ zr, w.heap.size = zr := ⟨_, rfl⟩
 rw [hzr] at HB0
 simp only [hzr]
 obtain ⟨zl, hzl⟩ : ∃ zl, zr + 1 = zl := ⟨_, rfl⟩
 rw [hzl] at HB0
 simp only [hzl]
 have HZR := Lib.hid hzr
 have HZL : Hid (zr ≤ zl) := by unfold Hid; omega
 clear hzr hzl
 have hst : ∀ W : World, Calls Try.prog 93 #[] W fun e w' => e = .returned (.agg #[.int .i64 0, .int .i64 0, .int .u8 63]) ∧ Below W.heap.size W w' := fun W => start_any W
 go_wp2_with (go_at_call 93; refine (hst _).mono ?_; rintro e wa ⟨rfl, hba⟩)
 clear hst
 have HBA := Lib.hid hba
 clear hba
 have HLA := Lib.hid (HB0.out.next HBA.out)
 have HBB := Lib.hid (below_next HBV.out HBA.out)
 clear HB0 HBV HBA hfd
 obtain ⟨i0, hi, hz0, hz1, hz2⟩ := info_parts info_int
 obtain ⟨i1, hj1, hy0, hy1, hy2⟩ := info_parts info_cell
 go_loopg [4, 5] (h 0 0) (fun gk s4 s5 wx => ∃ (i mo : Nat) (ks : List Int) (CV QV : Value), gk = h i mo ∧ s4 = .int .i64 i ∧ s5 = .int .i64 mo ∧ i ≤ s.size ∧ mo < M ∧ h i mo < imp ∧ cstE (cstR rs) ks + h i mo = h 0 0 ∧ PartW a rs (bytes s) ks i mo ∧ LW zr zl zr (cellsK rs ks) ks CV QV wx ∧ Below w.heap.size w wx)
 case atStart => exact ⟨0, 0, [], _, _, rfl, rfl, rfl, Nat.zero_le _, by omega, by have h1 := imp_big; omega, by simp [cstE], part_nil, HLA.out, HBB.out⟩
 case round =>
  obtain ⟨i, mo, ks, CV, QV, hgk, rfl, rfl, hil, hmo, hlt, hsum, hpart, hlw, hb0⟩ := hrel
  clear HLA HBB
  have HLW := Lib.hid hlw
  have HBB := Lib.hid hb0
  have HPT := Lib.hid hpart
  have HGK := Lib.hid hgk
  have HSM := Lib.hid hsum
  have HLT := Lib.hid hlt
  have HW := Lib.hid (HH.out.next hb0)
  clear hlw hb0 hpart hgk hsum hlt
  have hi0 : (0 : Int) ≤ (i : Int) := by omega
  have hi1 : (i : Int) < (s.size : Int) + 1 := by omega
  have hu0 : (0 : Int) ≤ (mo : Int) := by omega
  have hul : (mo : Int) < (M : Int) := by omega
  obtain ⟨w6, c0, r0⟩ := HW.out.cost (i := i) (mo := mo) hil hmo
  have hil2 : i ≤ (bytes s).length := by rw [bytes_len]; exact hil
  by_cases hz : h i mo = 0
  ·
   rw [hz] at r0
   have HBE := Lib.hid (part_end HG.out HT.out hil2 hmo hz HPT.out)
   clear hz
   obtain ⟨CA, ck, rfl⟩ := own_shape HLW.out.hc
   obtain ⟨PA, pk, rfl⟩ := own_shape HLW.out.hp
   have l0 := HLW.out.ho.cell 0
   have l1 := HLW.out.ho.cell 1
   have z0 := HLW.out.hz.cell 0
   have z1 := HLW.out.hz.cell 1
   have f0 := HLW.out.hz.free 0
   have f1 := HLW.out.hz.free 1
   simp only [List.getElem?_toArray, List.getElem?_cons_zero, List.getElem?_cons_succ] at l0 l1 z0 z1
   have h1z := HLW.out.hz.set 0 (.slice CA (cellsK rs ks).length ck)
   have h2z := h1z.set 1 (.slice PA ks.length pk)
   have e0 := h2z.cell 0
   have e1 := h2z.cell 1
   simp only [List.setIfInBounds_toArray, List.set_cons_zero, List.set_cons_succ, List.getElem?_toArray, List.getElem?_cons_zero, List.getElem?_cons_succ] at e0 e1
   have HEND : Hid (LstEnd a rs (bytes s) w (.returned (.agg #[.slice CA (cellsK rs ks).length ck, .slice PA ks.length pk])) ((wr.setCell ⟨zr, 0, none⟩ (.slice CA (cellsK rs ks).length ck)).setCell ⟨zr, 1, none⟩ (.slice PA ks.length pk))) := by
    refine ⟨CA, ck, PA, pk, ks, rfl, (own_seqT (own_set (own_set HLW.out.hc HLW.out.hz (by decide) _) h1z (by decide) _)).seq, own_seqN (own_set (own_set HLW.out.hp HLW.out.hz (by decide) _) h1z (by decide) _), HBE.out, (HBB.out.setCell ?_ _).setCell ?_ _⟩
    ·
     show w.heap.size ≤ zr; rw [HZR.out]; exact Nat.le_refl _
    ·
     show w.heap.size ≤ zr; rw [HZR.out]; exact Nat.le_refl _
   clear h1z h2z HLW HBE HBB HW HPT HGK HSM HLT
   go_wp2_with fail
   refine bodyPost_ret (v := .agg #[.slice CA (cellsK rs ks).length ck, .slice PA ks.length pk]) (by simp [results, Try.results74, go_sem, e0, e1]) rfl HEND.out
  ·
   have hpos : 0 < h i mo := by omega
   obtain ⟨J, hJ, hJ2⟩ := exists_least (keep_ex HG.out rfl HT.out hil2 hmo HLT.out hpos)
   have hJ3 : ∀ j, j < J → ¬ KeepP rs (bytes s) h i mo j := fun j hj hk => absurd (hJ2 j hk) (by omega)
   have hJl : J < rs.length := hJ.1
   have HPN := Lib.hid (part_snoc HG.out rfl HT.out hil2 hmo HLT.out hpos hJ hJ3 HPT.out hJl)
   obtain ⟨_, hedge, hcst, hcr⟩ := keep_edge HLT.out hJ
   obtain ⟨e1, e2, e3, _⟩ := edgP_ok HG.out (v := (i, (mo : Int))) hil2 hedge
   rw [bytes_len] at e1
   dsimp only at e1 e2 e3
   have hszs := sound_sizes HG.out (List.getElem_mem hJl)
   have HKE := Lib.hid (keeping_any w0 q M a A rs.length k rs s PV SV ps ss cg M B1 g h i mo J wr rfl HG.out hm rfl hmax (by omega) hil hmo HW.out (fun i' mo' h1 h2 => HT.out.top i' mo' (by rw [bytes_len]; exact h1) h2) hJ hJ3)
   obtain ⟨b, o, CX, kx, rfl, hb, d0, d1, d2, d3, d4, d5, hsq, _⟩ := rules_row HH.out.rules hJl
   have HSQ := Lib.hid hsq
   have hle := len_le_cst HG.out ks _ _ HPT.out.1
   have hcl := cellsK_len rs ks
   have HCK := Lib.hid (cellsK_snoc (ks := ks) hJl)
   obtain ⟨CA, ck, rfl⟩ := own_shape HLW.out.hc
   obtain ⟨PA, pk, rfl⟩ := own_shape HLW.out.hp
   have hks : ks.length < 2 ^ 42 := by have := HSM.out; omega
   have hcs : (cellsK rs ks).length < 2 ^ 42 := by have := HSM.out; omega
   have HSN : Hid (cstE (cstR rs) (ks ++ [(J : Int)]) + h (i + rs[J].p.size) rs[J].t.toNat = h 0 0) := by
    have := HSM.out
    unfold Hid
    rw [cstE_app]
    simp only [cstE, hcr]
    omega
   have HLN : Hid (h (i + rs[J].p.size) rs[J].t.toNat < h i mo) := by unfold Hid; omega
   clear hJ hJ2 hJ3 hedge hcst hcr hsq hle hcl hpos hz
   generalize rs[J] = x at *
   obtain ⟨mt, hmt⟩ : ∃ mt : Nat, x.t = (mt : Int) := ⟨x.t.toNat, by omega⟩
   rw [hmt] at d5 HPN HSN HLN e3
   rw [Int.toNat_natCast] at HPN HSN HLN
   clear hmt e2
   obtain ⟨cs, hcsE⟩ : ∃ cs, cellsK rs ks = cs := ⟨_, rfl⟩
   rw [hcsE] at HLW HCK hcs
   clear hcsE
   obtain ⟨hv, hhv⟩ : ∃ hv, h i mo = hv := ⟨_, rfl⟩
   rw [hhv] at r0 HGK HLT HLN
   have hvp : (0 : Int) < (hv : Int) := by have := HLN.out; omega
   clear hhv HSM
   go_wp2_with fail
   refine HKE.out.mono ?_
   clear HKE
   rintro e w1 ⟨rfl, hb1⟩
   have HL1 := Lib.hid (HLW.out.next hb1)
   have HB1 := Lib.hid (below_next HBB.out hb1)
   have w2 := (HW.out.next hb1).wk.cell 2
   simp only [List.getElem?_toArray, List.getElem?_cons_zero, List.getElem?_cons_succ] at w2
   clear w6 c0 r0 hb1 HLW HBB HW
   have y0 := (HB1.out.cell (p := ⟨b, o + J * 6, none⟩) hb).trans d0
   have y1 := (HB1.out.cell (p := ⟨b, o + J * 6 + 1, none⟩) hb).trans d1
   have y2 := (HB1.out.cell (p := ⟨b, o + J * 6 + 2, none⟩) hb).trans d2
   have y3 := (HB1.out.cell (p := ⟨b, o + J * 6 + 3, none⟩) hb).trans d3
   have y4 := (HB1.out.cell (p := ⟨b, o + J * 6 + 4, none⟩) hb).trans d4
   have y5 := (HB1.out.cell (p := ⟨b, o + J * 6 + 5, none⟩) hb).trans d5
   clear d0 d1 d2 d3 d4 d5 hb
   have hJ0 : (0 : Int) ≤ (J : Int) := by omega
   have hJn : (J : Int) < (rs.length : Int) := by omega
   have hbx := below_box w1 #[.string x.p, .slice CX x.c.length kx, .int .u8 x.l, .int .u8 x.r, .int .i64 x.f, .int .i64 mt] 99
   have HX : Hid (Blk (w1.alloc (.cells #[.string x.p, .slice CX x.c.length kx, .int .u8 x.l, .int .u8 x.r, .int .i64 x.f, .int .i64 mt] 99)) w1.heap.size 99 #[.string x.p, .slice CX x.c.length kx, .int .u8 x.l, .int .u8 x.r, .int .i64 x.f, .int .i64 mt]) := Blk.new _ _ _
   have HLX := Lib.hid (HL1.out.next hbx)
   have HBX := Lib.hid (below_next HB1.out hbx)
   clear hbx HL1 HB1
   go_upto_region 6 with fail
   generalize w1.alloc (.cells #[.string x.p, .slice CX x.c.length kx, .int .u8 x.l, .int .u8 x.r, .int .i64 x.f, .int .i64 mt] 99) = W at *
   obtain ⟨cx, hcx⟩ : ∃ cx, w1.heap.size = cx := ⟨_, rfl⟩
   rw [hcx] at HX
   simp only [hcx]
   clear hcx y0 y1 y2 y3 y4 y5 w2
   have l1 := HLX.out.ho.cell 1
   simp only [List.getElem?_toArray, List.getElem?_cons_zero, List.getElem?_cons_succ] at l1
   have hwl : zr ≤ W.heap.size := by rw [← HZR.out]; exact HBX.out.size
   go_wp2_with (at_builtin; refine wpList_append_own_at _ rfl _ _ 43 rfl zr 3 i0 (.int .i64 0) 1 8 Try.underlying43 hi hz0 hz1 hz2 rfl (by decide) (.slice PA ks.length pk) ks.length _ rfl (HLX.out.hp.alloc _) ⟨W.heap.size, 0, none⟩ 1 1 [.int .i64 J] rfl rfl (cell_one_new _ _ _) (ints_oneCell .i64 [(J : Int)]) (by unfold maxLen; omega) (by omega) (by simp; omega) ?_)
   intro v2 w2 hown2 hgr2 _ _
   obtain ⟨A2, k2, rfl⟩ := own_shape hown2
   have hgr : W.grownBy w2 (Value.slice PA ks.length pk).ownBlock := (World.grownBy_alloc _ _ _).trans hgr2
   have HLK := Lib.hid (HLX.out.addK hown2 hgr)
   have hB2 : Below w.heap.size w w2 := HBX.out.grown hgr HBX.out.size (fun g hg => by rw [HZR.out]; exact (HLX.out.hp.lt g hg).1)
   have HBK : Hid (Below w.heap.size w (w2.setCell ⟨zl, 1, none⟩ (.slice A2 (ks.length + 1) k2))) := hB2.setCell (by show w.heap.size ≤ zl; rw [HZR.out]; exact HZL.out) _
   have hx2 : Blk w2 cx 99 #[.string x.p, .slice CX x.c.length kx, .int .u8 x.l, .int .u8 x.r, .int .i64 x.f, .int .i64 mt] := (hgr.block cx HX.out.lt (own_ne3 HLX.out.hp HX.out (by decide)).symm).trans HX.out
   have ho2 : Blk w2 zl 60 #[.slice CA cs.length ck, .slice PA ks.length pk] := (hgr.block zl HLX.out.ho.lt (own_ne3 HLX.out.hp HLX.out.ho (by decide)).symm).trans HLX.out.ho
   have HXK : Hid (Blk (w2.setCell ⟨zl, 1, none⟩ (.slice A2 (ks.length + 1) k2)) cx 99 #[.string x.p, .slice CX x.c.length kx, .int .u8 x.l, .int .u8 x.r, .int .i64 x.f, .int .i64 mt]) := (Below.heap_setCell w2 ⟨zl, 1, none⟩ _ cx (Blk.type_ne hx2 ho2 (by decide))).trans hx2
   have u1 := ho2.cell 1
   have f1 := ho2.free 1
   simp only [List.getElem?_toArray, List.getElem?_cons_zero, List.getElem?_cons_succ] at u1
   clear hown2 hgr2 hgr hB2 hx2 ho2 HLX HBX HX l1 hwl
   go_upto_region 7 with fail
   clear u1 f1
   generalize w2.setCell ⟨zl, 1, none⟩ (.slice A2 (ks.length + 1) k2) = W2 at *
   have l0 := HLK.out.ho.cell 0
   have x1 := HXK.out.cell 1
   simp only [List.getElem?_toArray, List.getElem?_cons_zero, List.getElem?_cons_succ] at l0 x1
   obtain ⟨bx, ox, rfl, hbx, hcx⟩ := HSQ.out (by omega)
   have hnews : ∀ (i : Nat) (u : Value), (x.c.map (Value.int .u8))[i]? = some u → W2.cell? ((⟨bx, ox, none⟩ : Addr).add i) = some u := fun i u hu => by
    rw [List.getElem?_map] at hu
    cases hi : x.c[i]? with
    | none => rw [hi] at hu; cases hu
    | some z =>
     rw [hi] at hu
     injection hu with hu
     have hil := (List.getElem?_eq_some_iff.1 hi)
     rw [plain_add, ← hu, ← hil.2]
     exact (HBK.out.cell (p := ⟨bx, ox + i, none⟩) hbx).trans (hcx i hil.1)
   have hW2 : zr ≤ W2.heap.size := by rw [← HZR.out]; exact HBK.out.size
   go_wp2_with (at_builtin; refine wpList_append_own W2 rfl _ _ 32 rfl zr 96 i1 (.int .u8 0) 1 1 Try.underlying32 hj1 hy0 hy1 hy2 rfl (by decide) (.slice CA cs.length ck) cs.length _ rfl HLK.out.hc ⟨bx, ox, none⟩ x.c.length kx (x.c.map (Value.int .u8)) rfl (by simp) hnews (ints_oneCell .u8 x.c) (by unfold maxLen; omega) (by omega) (by omega) ?_)
   intro v3 w3 hown3 hgr3 _
   obtain ⟨A3, k3, rfl⟩ := own_shape hown3
   have HLC := Lib.hid (HLK.out.addC hown3 hgr3)
   have hB3 : Below w.heap.size w w3 := HBK.out.grown hgr3 HBK.out.size (fun g hg => by rw [HZR.out]; exact (HLK.out.hc.lt g hg).1)
   have HBC : Hid (Below w.heap.size w (w3.setCell ⟨zl, 0, none⟩ (.slice A3 (cs.length + x.c.length) k3))) := hB3.setCell (by show w.heap.size ≤ zl; rw [HZR.out]; exact HZL.out) _
   have hx3 : Blk w3 cx 99 #[.string x.p, .slice (some ⟨bx, ox, none⟩) x.c.length kx, .int .u8 x.l, .int .u8 x.r, .int .i64 x.f, .int .i64 mt] := (hgr3.block cx HXK.out.lt (own_ne3 HLK.out.hc HXK.out (by decide)).symm).trans HXK.out
   have ho3 : Blk w3 zl 60 #[.slice CA cs.length ck, .slice A2 (ks.length + 1) k2] := (hgr3.block zl HLK.out.ho.lt (own_ne3 HLK.out.hc HLK.out.ho (by decide)).symm).trans HLK.out.ho
   have HXC : Hid (Blk (w3.setCell ⟨zl, 0, none⟩ (.slice A3 (cs.length + x.c.length) k3)) cx 99 #[.string x.p, .slice (some ⟨bx, ox, none⟩) x.c.length kx, .int .u8 x.l, .int .u8 x.r, .int .i64 x.f, .int .i64 mt]) := (Below.heap_setCell w3 ⟨zl, 0, none⟩ _ cx (Blk.type_ne hx3 ho3 (by decide))).trans hx3
   have u0 := ho3.cell 0
   have f0 := ho3.free 0
   simp only [List.getElem?_toArray, List.getElem?_cons_zero] at u0
   clear hown3 hgr3 hB3 hx3 ho3 HLK HBK HXK l0 x1 hnews hcx
   go_upto_region 8 with fail
   clear u0 f0
   generalize w3.setCell ⟨zl, 0, none⟩ (.slice A3 (cs.length + x.c.length) k3) = W3 at *
   have x0 := HXC.out.cell 0
   have x5 := HXC.out.cell 5
   simp only [List.getElem?_toArray, List.getElem?_cons_zero, List.getElem?_cons_succ] at x0 x5
   clear HXC
   go_quiet (fail)
   have HLD := Lib.hid (HLC.out.next (w' := W3.drewN nq) (below_dN (Below.refl _ _)))
   have HBD : Hid (Below w.heap.size w (W3.drewN nq)) := below_dN HBC.out
   clear HLC HBC x0 x5
   go_wp2_with fail
   go_roundg (h (i + x.p.size) mt)
   case measure => rw [HGK.out]; exact HLN.out
   case rel => exact ⟨i + x.p.size, mt, ks ++ [(J : Int)], _, _, rfl, by rw [Int.natCast_add], rfl, e1, by omega, Nat.lt_trans HLN.out HLT.out, HSN.out, HPN.out, by rw [HCK.out]; exact HLD.out, HBD.out⟩
end Go.Proofs.Ytpkdlljefkbmpaa
