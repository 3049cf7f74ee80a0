/- Merged by program: Hd Md RRn -/
import Derived.Test.YtpkdlljefkbmpaaQ13
import Derived.Test.YtpkdlljefkbmpaaQ5
import Derived.Test.YtpkdlljefkbmpaaQ17
import Derived.Test.YtpkdlljefkbmpaaQ19
import Derived.Deep.RegionLaw

/-! What the operations of a drawn region give, as a list of what holds of each. -/
namespace Go.Proofs.Ytpkdlljefkbmpaa
open Go.RowKit
def pv (u : Value) : Value → World → Prop := fun v _ => v = u
def pb (mk : Nat → Value) (t : TypeId) (cs : Array Value) : Value → World → Prop := fun v w => ∃ g, v = mk g ∧ Blk w g t cs
def pq {α : Type} (f : α → Value) (p : α → World → Prop) : Value → World → Prop := fun v w => ∃ x, v = f x ∧ p x w
def Stays (p : Value → World → Prop) : Prop := ∀ v w w', p v w → Below w.heap.size w w' → p v w'
theorem pv_st {u : Value} : Stays (pv u) := fun _ _ _ h _ => h
theorem pq_st {α : Type} {f : α → Value} {p : α → World → Prop} (h : ∀ x w w', p x w → Below w.heap.size w w' → p x w') : Stays (pq f p) := fun _ _ _ ⟨x, e, hp⟩ hb => ⟨x, e, h x _ _ hp hb⟩
def StayL : List (Value → World → Prop) → Prop
 | [] => True
 | p :: r => Stays p ∧ StayL r
theorem stay_nil : StayL [] := trivial
theorem stay_cons {p : Value → World → Prop} {r : List (Value → World → Prop)} (h : Stays p) (hr : StayL r) : StayL (p :: r) := ⟨h, hr⟩
def phiP (L : List (Value → World → Prop)) (i : Nat) (v : Value) (w : World) : Prop := match L[i]? with
 | some p => p v w
 | none => True
theorem stay_at : ∀ (L : List (Value → World → Prop)) (i : Nat) (p : Value → World → Prop), StayL L → L[i]? = some p → Stays p := by
 intro L
 induction L with
 | nil => intro i p _ h; simp at h
 | cons a r ih =>
  intro i p hs h
  cases i with
  | zero =>
   have e : a = p := by simpa using h
   rw [← e]; exact hs.1
  | succ i => exact ih i p hs.2 (by simpa using h)
theorem phiP_keep {L : List (Value → World → Prop)} (hs : StayL L) {i : Nat} {v : Value} {w w' : World} (h : phiP L i v w) (hb : Below w.heap.size w w') : phiP L i v w' := by
 unfold phiP at h ⊢
 split
 ·
  rename_i p hp
  rw [hp] at h
  exact stay_at L i p hs hp v w w' h hb
 ·
  trivial
end Go.Proofs.Ytpkdlljefkbmpaa

/-! Drawn regions that make a state's block and store a state into it, whatever else they compute: what each operation gives, as a list of values. -/
namespace Go.Proofs.Ytpkdlljefkbmpaa
open Go.RowKit
def phiG (V : World) (L : List Value) (ia i : Nat) (v : Value) (w : World) : Prop := if i = ia then ∃ g, v = .pointer (some ⟨g, 0, none⟩) ∧ V.heap.size ≤ g ∧ ∃ a b c, Blk w g 47 #[a, b, c] else match L[i]? with
 | some u => v = u
 | none => True
theorem phiG_keep {V w w' : World} {L : List Value} {ia i : Nat} {v : Value} (hw : ∀ g a b c, V.heap.size ≤ g → Blk w g 47 #[a, b, c] → ∃ a b c, Blk w' g 47 #[a, b, c]) (h : phiG V L ia i v w) : phiG V L ia i v w' := by
 unfold phiG at h ⊢
 split
 ·
  rename_i e
  rw [if_pos e] at h
  obtain ⟨g, e1, hg, a, b, c, hB⟩ := h
  exact ⟨g, e1, hg, hw g a b c hg hB⟩
 ·
  rename_i e
  rw [if_neg e] at h
  exact h
theorem phiG_below {V w w' : World} {L : List Value} {ia i : Nat} {v : Value} (hb : Below w.heap.size w w') (h : phiG V L ia i v w) : phiG V L ia i v w' :=
 phiG_keep (fun _ a b c _ h => ⟨a, b, c, h.keep hb h.lt⟩) h
theorem phiG_store {V w : World} {L : List Value} {ia i g : Nat} {v a b c : Value} (h : phiG V L ia i v w) : phiG V L ia i v (((w.setCell ⟨g, 0, none⟩ a).setCell ⟨g, 1, none⟩ b).setCell ⟨g, 2, none⟩ c) := by
 refine phiG_keep (fun g' x y z _ hc => ?_) h
 by_cases hgg : g' = g
 ·
  subst hgg
  exact ⟨_, _, _, ((hc.set 0 a).set 1 b).set 2 c⟩
 ·
  exact ⟨x, y, z, ((Below.heap_setCell _ _ _ _ hgg).trans ((Below.heap_setCell _ _ _ _ hgg).trans (Below.heap_setCell _ _ _ _ hgg))).trans hc⟩
def stG (V : World) (s : St) (ia is : Nat) (b : Nat → Bool) (y : Nat → Value) (w : World) : Prop :=
 Below V.heap.size V w ∧ (b is = true → b ia = true ∧ ∃ g, y ia = .pointer (some ⟨g, 0, none⟩) ∧ V.heap.size ≤ g ∧ Blk w g 47 #[.int .i64 s.mode, .int .i64 s.last, .int .u8 s.need])
theorem stG_same {V w w' : World} {s : St} {ia is : Nat} {b : Nat → Bool} {y : Nat → Value} {i : Nat} {v : Value} (h : stG V s ia is b y w) (hi : i ≠ ia ∧ i ≠ is) (hb : Below w.heap.size w w') : stG V s ia is (fun j => if j = i then true else b j) (upd y i v) w' := by
 refine ⟨h.1.trans (hb.mono h.1.size), fun h7 => ?_⟩
 have h7' : b is = true := by simpa [Ne.symm hi.2] using h7
 obtain ⟨h6, g, e, hg, hB⟩ := h.2 h7'
 refine ⟨by simp [h6], g, ?_, hg, hB.keep hb hB.lt⟩
 unfold upd; rw [if_neg (Ne.symm hi.1)]; exact e
theorem stG_alloc {V w : World} {s : St} {ia is : Nat} {b : Nat → Bool} {y : Nat → Value} {v : Value} (h : stG V s ia is b y w) (hne : is ≠ ia) (hb : b ia = false) (o : Obj) : stG V s ia is (fun j => if j = ia then true else b j) (upd y ia v) (w.alloc o) := by
 refine ⟨h.1.alloc h.1.size _, fun h7 => ?_⟩
 have h7' : b is = true := by simpa [hne] using h7
 have := (h.2 h7').1
 rw [hb] at this; cases this
theorem stG_store {V w : World} {s : St} {ia is : Nat} {b : Nat → Bool} {y : Nat → Value} {v a a2 a3 : Value} {g : Nat} (h : stG V s ia is b y w) (hne : is ≠ ia) (hb : b ia = true) (e : y ia = .pointer (some ⟨g, 0, none⟩)) (hg : V.heap.size ≤ g) (hB : Blk w g 47 #[a, a2, a3]) :
  stG V s ia is (fun j => if j = is then true else b j) (upd y is v) (((w.setCell ⟨g, 0, none⟩ (.int .i64 s.mode)).setCell ⟨g, 1, none⟩ (.int .i64 s.last)).setCell ⟨g, 2, none⟩ (.int .u8 s.need)) := by
 refine ⟨((h.1.setCell hg _).setCell hg _).setCell hg _, fun _ => ⟨by simp [hb], g, ?_, hg, ((hB.set 0 _).set 1 _).set 2 _⟩⟩
 unfold upd; rw [if_neg (Ne.symm hne)]; exact e
end Go.Proofs.Ytpkdlljefkbmpaa

/-! The reference's Run. -/
namespace Go.Proofs.Ytpkdlljefkbmpaa
open Go.RowKit Go.Maps
structure RB (w0 : World) (p c : Nat) (m a : Int) (A : Option Addr) (n k : Nat) (wr : World) (t : R0) (cv : Value) : Prop where
 ht : Blk wr p 30 #[.int .i64 m, .int .u8 a, .slice A n k]
 hz : Blk wr (p + 1) 49 #[.string ⟨#[]⟩, .slice none 0 0, .int .i64 0, .int .i64 0, .int .i64 0, .int .u8 0, .bool false]
 ho : Blk wr c 49 #[.string (strOf t.p), cv, .int .i64 (t.n : Nat), .int .i64 t.st.mode, .int .i64 t.st.last, .int .u8 t.st.need, .bool false]
 hc : wr.ownsRow (c + 1) 96 1 cv t.c.length (t.c.map (Value.int .u8))
 hb : Below p w0 wr
 hpc : p + 2 ≤ c
theorem RB.below {w0 : World} {p c : Nat} {m a : Int} {A : Option Addr} {n k : Nat} {wr w' : World} {t : R0} {cv : Value} (h : RB w0 p c m a A n k wr t cv) (hb : Below wr.heap.size wr w') : RB w0 p c m a A n k w' t cv :=
 ⟨h.ht.keep hb h.ht.lt, h.hz.keep hb h.hz.lt, h.ho.keep hb h.ho.lt, own_keep h.hc hb, h.hb.trans (hb.mono (by have := h.ht.lt; omega)), h.hpc⟩
theorem RB.drew {w0 : World} {p c : Nat} {m a : Int} {A : Option Addr} {n k : Nat} {wr : World} {t : R0} {cv : Value} (h : RB w0 p c m a A n k wr t cv) : RB w0 p c m a A n k wr.drew t cv := ⟨h.ht, h.hz, h.ho, h.hc, h.hb.drew, h.hpc⟩
theorem RB.put {w0 : World} {p c : Nat} {m a : Int} {A : Option Addr} {n k : Nat} {wr w' : World} {t : R0} {cv : Value} (h : RB w0 p c m a A n k wr t cv) (t' : R0) (hk : ∀ b, b ≠ c → w'.heap[b]? = wr.heap[b]?) (hct : t'.c = t.c)
  (ho : Blk w' c 49 #[.string (strOf t'.p), cv, .int .i64 (t'.n : Nat), .int .i64 t'.st.mode, .int .i64 t'.st.last, .int .u8 t'.st.need, .bool false]) (hb : Below p w0 w') : RB w0 p c m a A n k w' t' cv := by
 have hpc := h.hpc
 refine ⟨(hk p (by omega)).trans h.ht, (hk _ (by omega)).trans h.hz, ho, ?_, hb, hpc⟩
 rw [hct]
 exact own_move h.hc fun b hb => hk b (by have := (h.hc.lt b hb).1; omega)
theorem RB.cells {w0 : World} {p c : Nat} {m a : Int} {A : Option Addr} {n k : Nat} {wr w' : World} {t : R0} {cv v : Value} {q : List Int} (h : RB w0 p c m a A n k wr t cv) (ho : w'.ownsRow (c + 1) 96 1 v (t.c.length + q.length) (t.c.map (Value.int .u8) ++ q.map (Value.int .u8))) (hg : wr.grownBy w' cv.ownBlock) : RB w0 p c m a A n k (w'.setCell ⟨c, 1, none⟩ v) ⟨t.p, t.c ++ q, t.n, t.st⟩ v := by
 have hpc := h.hpc
 have hc1 : Blk w' c 49 _ := Blk.row h.hc hg h.ho (by decide)
 have key : ∀ b, b ≠ c → (w'.setCell ⟨c, 1, none⟩ v).heap[b]? = w'.heap[b]? := fun b hb => Below.heap_setCell _ ⟨c, 1, none⟩ _ b hb
 refine ⟨(key p (by omega)).trans (Blk.row h.hc hg h.ht (by decide)), (key _ (by omega)).trans (Blk.row h.hc hg h.hz (by decide)), hc1.set 1 v, ?_, ?_, hpc⟩
 ·
  rw [List.map_append, List.length_append]
  exact own_move ho fun b hb => key b (by have := (ho.lt b hb).1; omega)
 ·
  exact (h.hb.grown hg (by have := h.ht.lt; omega) (fun g hg' => by have := (h.hc.lt g hg').1; omega)).setCell (by show p ≤ c; omega) _
theorem strOf_app (l : List Int) (s : ByteArray) : strOf (l ++ (bytes s).map fun b : Nat => (b : Int)) = strOf l ++ s := by
 apply ByteArray.ext
 rw [ByteArray.data_append]
 apply Array.ext'
 rw [Array.toList_append]
 unfold strOf bytes
 show (l ++ _).map _ = _
 rw [List.map_append, List.map_map, List.map_map]
 congr 1
 conv => rhs; rw [← List.map_id s.data.toList]
 refine List.map_congr_left fun b _ => ?_
 show UInt8.ofNat ((b.toNat : Int)).toNat = b
 rw [Int.toNat_natCast]
 exact UInt8.ofNat_toNat
theorem rules_at {w : World} {B b o : Nat} {rs : List Rule} (h : Rules w B (some ⟨b, o, none⟩) rs) {j : Nat} (hj : j < rs.length) : b < B ∧ RuleAt w B b (o + j * 6) rs[j] := by
 obtain ⟨b', o', e, hb, hc⟩ := h (by omega)
 have e1 : b = b' := by injection e with e; injection e
 have e2 : o = o' := by injection e with e; injection e
 rw [e1, e2]
 exact ⟨hb, hc j hj⟩
set_option maxRecDepth 10000 in
set_option maxHeartbeats 4000000 in
theorem rRun_any (m a : Int) (A : Option Addr) (n k : Nat) (rs : List Rule) (PA : Option Addr) (pn pk : Nat) (ks : List Int) (w : World) (hn : rs.length = n) (hR : Rules w w.heap.size A rs) (hG : GoodL m a rs) (hmax : n ≤ 64) (hm : 1 ≤ m ∧ m ≤ 8) (ha : 0 ≤ a ∧ a < 256) (hks : ks.length = pn) (hP : SeqN w w.heap.size PA ks) (hpm : pn ≤ 1000000) :
  Calls Try.prog 27 #[.agg #[.int .i64 m, .int .u8 a, .slice A n k], .slice PA pn pk] w (RunEnd a rs ks w) := by
 have HP0 := Lib.hid (run_pre w m a A n k #[.string ⟨#[]⟩, .slice none 0 0, .int .i64 0, .int .i64 0, .int .i64 0, .int .u8 0, .bool false])
 have HR := Lib.hid hR
 have HN := Lib.hid hn
 have HG := Lib.hid hG
 have HFT := Lib.hid hR.fit
 have HKS := Lib.hid hks
 have HPA := Lib.hid hP
 have HAC := Lib.hid (good_acc hG ha)
 clear hR hn hG hks hP
 go_enter Try.func27, Try.ntmps27
 go_wp2_with fail
 generalize (w.alloc (.cells #[.int .i64 m, .int .u8 a, .slice A n k] 30)).alloc (.cells #[.string ⟨#[]⟩, .slice none 0 0, .int .i64 0, .int .i64 0, .int .i64 0, .int .u8 0, .bool false] 49) = V at *
 obtain ⟨p, hp⟩ : ∃ p, w.heap.size = p := ⟨_, rfl⟩
 rw [hp] at HP0 HR HPA
 simp only [hp]
 have HW := Lib.hid hp
 clear hp
 refine (rStart_any V).mono ?_
 rintro e w1 ⟨rfl, hb1⟩
 rw [show St.start.val = .agg #[.int .i64 0, .int .i64 0, .int .u8 63] from rfl]
 have HV2 : Hid (RB w p w1.heap.size m a A n k (w1.alloc (.cells #[.string ⟨#[]⟩, .slice none 0 0, .int .i64 0, .int .i64 0, .int .i64 0, .int .u8 63, .bool false] 49)) ⟨[], [], 0, St.start⟩ (.slice none 0 0)) := by
  have hs1 := hb1.size
  have hv := HP0.out.2.2.2
  refine ⟨(HP0.out.1.keep hb1 HP0.out.1.lt).box, (HP0.out.2.1.keep hb1 HP0.out.2.1.lt).box, Blk.new _ _ _, World.ownsRow_nil _ _ _ _, ?_, by omega⟩
  exact (HP0.out.2.2.1.trans (hb1.mono (by omega))).alloc (by omega) _
 clear hb1 HP0
 go_upto_region 2 with fail
 generalize w1.alloc (.cells #[.string ⟨#[]⟩, .slice none 0 0, .int .i64 0, .int .i64 0, .int .i64 0, .int .u8 63, .bool false] 49) = V2 at *
 obtain ⟨c, hc⟩ : ∃ c, w1.heap.size = c := ⟨_, rfl⟩
 rw [hc] at HV2
 simp only [hc]
 clear hc
 go_wp2_with fail
 go_loopw [6] (fun x wr => ∃ (j : Nat) (t : R0) (cv : Value), x = .int .i64 j ∧ j ≤ pn ∧ t.small j m ∧ runGo rs (ks.drop j) t = runT rs ks ∧ RB w p c m a A n k wr t cv) (fun x _ => pn - (intOf x).toNat)
 case atStart => exact ⟨0, _, _, rfl, Nat.zero_le _, ⟨by simp, by simp, rfl, start_ok hm.1⟩, rfl, HV2.out⟩
 case round =>
  clear HV2
  obtain ⟨j, t, cv, rfl, hj, hsm, hgo, hra⟩ := hrel
  have HRA := Lib.hid hra
  have HSM := Lib.hid hsm
  have t0 := hra.ht.cell 0
  have t1 := hra.ht.cell 1
  have t2 := hra.ht.cell 2
  have c3 := hra.ho.cell 3
  have c4 := hra.ho.cell 4
  have c5 := hra.ho.cell 5
  simp only [List.getElem?_toArray, List.getElem?_cons_zero, List.getElem?_cons_succ] at t0 t1 t2 c3 c4 c5
  by_cases hlt : j < pn
  ·
   have hjl : j < ks.length := by have := HKS.out; omega
   obtain ⟨bk, ok, rfl, hbk, hck⟩ := HPA.out (by omega)
   have d0 := (hra.hb.cell (p := ⟨bk, ok + j, none⟩) (by show bk < _; omega)).trans (hck j hjl)
   have hbk2 : bk < wr.heap.size := by have := hra.ht.lt; omega
   have HDR : Hid (ks.drop j = ks[j]'hjl :: ks.drop (j + 1)) := List.drop_eq_getElem_cons hjl
   have hgo2 := hgo
   rw [HDR.out] at hgo2
   have DK := Lib.hid (hck j hjl)
   clear hck
   generalize ks[j]'hjl = kv at *
   obtain ⟨sr, hsr⟩ : ∃ sr, stepS rs t.st kv = sr := ⟨_, rfl⟩
   have hGO : Hid ((if sr.2 then runGo rs (ks.drop (j + 1)) (t.add (ruleOf rs kv) sr.1) else t) = runT rs ks) := by
    unfold Hid; rw [← hgo2, ← hsr]; rfl
   have HSR := Lib.hid hsr
   have HL := Lib.hid hlt
   have hj0 : (0 : Int) ≤ (j : Int) := by omega
   have hjn : (j : Int) < (pn : Int) := by omega
   have hRw : Rules wr wr.heap.size A rs := (HR.out.keep hra.hb).more (by have := hra.hb.size; have := HW.out; omega)
   have HRW := Lib.hid hRw
   have hpl := hra.ht.lt
   have hcl := hra.ho.lt
   have HSF := Lib.hid (hsm.2.2.2.fit hm.2)
   clear hra hsm hsr hgo hgo2 hRw
   obtain ⟨⟨ta, tb, tc⟩, okb⟩ := sr
   go_upto_region 5 with fail
   refine wp_region_mid2 13 0 (by kernel_rfl) (fun y => (.agg #[.int .i64 m, .int .u8 a, .slice A n k]) :: (.slice (some ⟨bk, ok, none⟩) pn pk) :: (.pointer (some ⟨p, 0, none⟩)) :: undef :: (.pointer (some ⟨p + 1, 0, none⟩)) :: (.pointer (some ⟨c, 0, none⟩)) :: (.int .i64 ↑j) :: y 11 :: u8 :: (.agg #[.int .i64 0, .int .i64 0, .int .u8 63]) :: (.agg #[Value.string ⟨#[]⟩, .slice none 0 0, .int .i64 0, .int .i64 0, .int .i64 0, .int .u8 63, .bool false]) :: (.int .i64 ↑j) :: (.slice (some ⟨bk, ok, none⟩) pn pk) :: (.int .i64 ↑pn) :: (.bool true) :: u15 :: u16 :: y 8 :: y 0 :: y 1 :: y 2 :: y 3 :: y 4 :: y 5 :: y 6 :: y 7 :: y 9 :: y 10 :: u28 :: u29 :: u30 :: u31 :: u32 :: u33 :: u34 :: u35 :: u36 :: u37 :: u38 :: u39 :: u40 :: u41 :: u42 :: u43 :: u44 :: u45 :: u46 :: u47 :: u48 :: u49 :: u50 :: u51 :: u52 :: u53 :: u54 :: u55 :: u56 :: u57 :: u58 :: u59 :: u60 :: u61 :: u62 :: undef :: undef :: undef :: undef :: undef :: undef :: []) (stG wr (⟨ta, tb, tc⟩ : St) 11 12) (phiG wr [(.agg #[.int .i64 m, .int .u8 a, .slice A n k]), (.pointer (some ⟨c, 3, none⟩)), (.agg #[.int .i64 t.st.mode, .int .i64 t.st.last, .int .u8 t.st.need]), (.slice (some ⟨bk, ok, none⟩) pn pk), (.int .i64 j), (.pointer (some ⟨bk, ok + j, none⟩)), (.int .i64 kv), (.tuple #[(⟨ta, tb, tc⟩ : St).val, .bool okb]), (.tuple #[(⟨ta, tb, tc⟩ : St).val, .bool okb]), ((⟨ta, tb, tc⟩ : St).val), (.bool okb), undef] 11) (fun i => match i with | 0 => u18 | 1 => u19 | 2 => u20 | 3 => u21 | 4 => u22 | 5 => u23 | 6 => u24 | 7 => u25 | 8 => u17 | 9 => u26 | 10 => u27 | 11 => u7 | _ => undef)
    (by kernel_rfl) (by kernel_rfl) (by kernel_rfl) (by kernel_rfl) ?_ [0, 1, 2, 3, 4, 5, 6, 7, 8, 9, 10, 11, 12] (by kernel_rfl) ?_ ?_
   ·
    exact ⟨(Below.refl _ _).drew, fun h => by cases h⟩
   ·
    refine allCons ?_ (allCons ?_ (allCons ?_ (allCons ?_ (allCons ?_ (allCons ?_ (allCons ?_ (allCons ?_ (allCons ?_ (allCons ?_ (allCons ?_ (allCons ?_ (allCons ?_ (allNil)))))))))))))
    all_goals intro bl y w10 K3 hbi hS hd hK3
    ·
     have q0 := (hS.1.cell (p := ⟨p, 0, none⟩) hpl).trans t0
     have q1 := (hS.1.cell (p := ⟨p, 1, none⟩) hpl).trans t1
     have q2 := (hS.1.cell (p := ⟨p, 2, none⟩) hpl).trans t2
     refine wpOp_step rfl (fun K2 hK2 => ?_)
     go_simp
     exact hK2 _ _ (hK3 _ _ (stG_same hS (by decide) (Below.refl _ _)) rfl (fun _ _ h => h))
    ·
     refine wpOp_step rfl (fun K2 hK2 => ?_)
     go_simp
     exact hK2 _ _ (hK3 _ _ (stG_same hS (by decide) (Below.refl _ _)) rfl (fun _ _ h => h))
    ·
     have e1 : y 1 = _ := (hd 1 rfl).2
     obtain ⟨y, rfl⟩ := upd_at (y := y) (i := 1) e1
     dsimp [upd]
     have q3 := (hS.1.cell (p := ⟨c, 3, none⟩) hcl).trans c3
     have q4 := (hS.1.cell (p := ⟨c, 4, none⟩) hcl).trans c4
     have q5 := (hS.1.cell (p := ⟨c, 5, none⟩) hcl).trans c5
     refine wpOp_step rfl (fun K2 hK2 => ?_)
     go_simp
     exact hK2 _ _ (hK3 _ _ (stG_same hS (by decide) (Below.refl _ _)) rfl (fun _ _ h => h))
    ·
     refine wpOp_step rfl (fun K2 hK2 => ?_)
     go_simp
     exact hK2 _ _ (hK3 _ _ (stG_same hS (by decide) (Below.refl _ _)) rfl (fun _ _ h => h))
    ·
     refine wpOp_step rfl (fun K2 hK2 => ?_)
     go_simp
     exact hK2 _ _ (hK3 _ _ (stG_same hS (by decide) (Below.refl _ _)) rfl (fun _ _ h => h))
    ·
     have e3 : y 3 = _ := (hd 3 rfl).2
     have e4 : y 4 = _ := (hd 4 rfl).2
     obtain ⟨y, rfl⟩ := upd_at (y := y) (i := 3) e3
     obtain ⟨y, rfl⟩ := upd_at (y := y) (i := 4) e4
     dsimp [upd]
     refine wpOp_step rfl (fun K2 hK2 => ?_)
     go_simp
     exact hK2 _ _ (hK3 _ _ (stG_same hS (by decide) (Below.refl _ _)) rfl (fun _ _ h => h))
    ·
     have e5 : y 5 = _ := (hd 5 rfl).2
     obtain ⟨y, rfl⟩ := upd_at (y := y) (i := 5) e5
     dsimp [upd]
     have q0 := (hS.1.cell (p := ⟨bk, ok + j, none⟩) hbk2).trans d0
     refine wpOp_step rfl (fun K2 hK2 => ?_)
     go_simp
     exact hK2 _ _ (hK3 _ _ (stG_same hS (by decide) (Below.refl _ _)) rfl (fun _ _ h => h))
    ·
     have e0 : y 0 = _ := (hd 0 rfl).2
     have e2 : y 2 = _ := (hd 2 rfl).2
     have e6 : y 6 = _ := (hd 6 rfl).2
     obtain ⟨y, rfl⟩ := upd_at (y := y) (i := 0) e0
     obtain ⟨y, rfl⟩ := upd_at (y := y) (i := 2) e2
     obtain ⟨y, rfl⟩ := upd_at (y := y) (i := 6) e6
     dsimp [upd]
     refine wpOp_step rfl (fun K2 hK2 => ?_)
     go_simp
     refine (rStep_any m a A n k rs t.st kv HN.out HSF.out (by omega) w10 (HRW.out.up hS.1)).mono ?_
     rw [HSR.out]
     rintro e' w2 ⟨rfl, hb⟩
     exact hK2 _ _ (hK3 _ _ (stG_same hS (by decide) hb) rfl (fun _ _ h => phiG_below hb h))
    ·
     have e7 : y 7 = _ := (hd 7 rfl).2
     obtain ⟨y, rfl⟩ := upd_at (y := y) (i := 7) e7
     dsimp [upd]
     refine wpOp_step rfl (fun K2 hK2 => ?_)
     go_simp
     exact hK2 _ _ (hK3 _ _ (stG_same hS (by decide) (Below.refl _ _)) rfl (fun _ _ h => h))
    ·
     have e8 : y 8 = _ := (hd 8 rfl).2
     obtain ⟨y, rfl⟩ := upd_at (y := y) (i := 8) e8
     dsimp [upd]
     refine wpOp_step rfl (fun K2 hK2 => ?_)
     go_simp
     exact hK2 _ _ (hK3 _ _ (stG_same hS (by decide) (Below.refl _ _)) rfl (fun _ _ h => h))
    ·
     have e8 : y 8 = _ := (hd 8 rfl).2
     obtain ⟨y, rfl⟩ := upd_at (y := y) (i := 8) e8
     dsimp [upd]
     refine wpOp_step rfl (fun K2 hK2 => ?_)
     go_simp
     exact hK2 _ _ (hK3 _ _ (stG_same hS (by decide) (Below.refl _ _)) rfl (fun _ _ h => h))
    ·
     refine wpOp_step rfl (fun K2 hK2 => ?_)
     go_simp
     exact hK2 _ _ (hK3 _ _ (stG_alloc hS (by decide) hbi _) ⟨_, rfl, hS.1.size, _, _, _, Blk.new _ _ _⟩ (fun _ _ h => phiG_below (below_box _ _ _) h))
    ·
     have e9 : y 9 = .agg #[.int .i64 (⟨ta, tb, tc⟩ : St).mode, .int .i64 (⟨ta, tb, tc⟩ : St).last, .int .u8 (⟨ta, tb, tc⟩ : St).need] := (hd 9 rfl).2
     obtain ⟨hb10, g, e10, hg, za, zb, zc, hB⟩ := hd 11 rfl
     have hS2 := stG_store (v := undef) hS (by decide) hb10 e10 hg hB
     obtain ⟨y, rfl⟩ := upd_at (y := y) (i := 9) e9
     obtain ⟨y, rfl⟩ := upd_at (y := y) (i := 11) e10
     dsimp [upd]
     have d0 := hB.cell 0
     have d1 := hB.cell 1
     have d2 := hB.cell 2
     have f0 := hB.free 0
     have f1 := hB.free 1
     have f2 := hB.free 2
     simp only [List.getElem?_toArray, List.getElem?_cons_zero, List.getElem?_cons_succ] at d0 d1 d2
     refine wpOp_step rfl (fun K2 hK2 => ?_)
     go_simp
     exact hK2 _ _ (hK3 undef _ hS2 trivial (fun _ _ hφ => phiG_store hφ))
   ·
    intro bl y w10 f hall hS hd
    obtain ⟨_, g10, e10, hg10, hB10⟩ := hS.2 (hall 12 (by decide))
    have hb10 := hS.1
    have e10' : y 10 = _ := hd 10 (by decide)
    clear hd hall hS
    obtain ⟨y, rfl⟩ := upd_at (y := y) (i := 10) e10'
    obtain ⟨y, rfl⟩ := upd_at (y := y) (i := 11) e10
    dsimp [upd]
    refine wpAny_one (i := 13) (by kernel_rfl) ?_
    refine wpOp_step rfl (fun K2 hK2 => ?_)
    go_simp
    refine hK2 _ _ ?_
    clear hK2 K2 e10' e10
    refine wpAny_done (by kernel_rfl) ?_ _
    have HR10 := Lib.hid (HRA.out.below hb10)
    have HRW10 := Lib.hid (HRW.out.up hb10)
    have HD10 := Lib.hid hB10
    clear hb10 hB10 hg10 HRA HRW t0 t1 t2 c3 c4 c5 d0
    cases okb with
    | false =>
     have HF : Hid (t = runT rs ks) := by unfold Hid; have := hGO.out; simpa using this
     have hnj := HSM.out.2.2.1
     clear hGO
     obtain ⟨CA, ck, rfl⟩ := own_shape HR10.out.hc
     have o0 := HR10.out.ho.cell 0
     have o1 := HR10.out.ho.cell 1
     have o2 := HR10.out.ho.cell 2
     have o3 := HR10.out.ho.cell 3
     have o4 := HR10.out.ho.cell 4
     have o5 := HR10.out.ho.cell 5
     have o6 := HR10.out.ho.cell 6
     have z0 := HR10.out.hz.cell 0
     have z1 := HR10.out.hz.cell 1
     have z2 := HR10.out.hz.cell 2
     have z3 := HR10.out.hz.cell 3
     have z4 := HR10.out.hz.cell 4
     have z5 := HR10.out.hz.cell 5
     have z6 := HR10.out.hz.cell 6
     have f0 := HR10.out.hz.free 0
     have f1 := HR10.out.hz.free 1
     have f2 := HR10.out.hz.free 2
     have f3 := HR10.out.hz.free 3
     have f4 := HR10.out.hz.free 4
     have f5 := HR10.out.hz.free 5
     have f6 := HR10.out.hz.free 6
     simp only [List.getElem?_toArray, List.getElem?_cons_zero, List.getElem?_cons_succ] at o0 o1 o2 o3 o4 o5 o6 z0 z1 z2 z3 z4 z5 z6
     have HNJ : Hid (t.n < pn) := by unfold Hid; omega
     clear hnj
     go_wp2_with fail
     have hq := ((((((HR10.out.hz.set 0 (.string (strOf t.p))).set 1 (.slice CA t.c.length ck)).set 2 (.int .i64 (t.n : Nat))).set 3 (.int .i64 t.st.mode)).set 4 (.int .i64 t.st.last)).set 5 (.int .u8 t.st.need)).set 6 (.bool false)
     have hout := trace_out HR10.out.hz (own_seqT HR10.out.hc) HR10.out.hb (Nat.le_succ p) (.string (strOf t.p)) (.slice CA t.c.length ck) (.int .i64 (t.n : Nat)) (.int .i64 t.st.mode) (.int .i64 t.st.last) (.int .u8 t.st.need) (.bool false)
     clear z0 z1 z2 z3 z4 z5 z6 f0 f1 f2 f3 f4 f5 f6 o0 o1 o2 o3 o4 o5 o6
     refine bodyPost_ret (v := .agg #[.string (strOf t.p), .slice CA t.c.length ck, .int .i64 (t.n : Nat), .int .i64 t.st.mode, .int .i64 t.st.last, .int .u8 t.st.need, .bool false]) ?_ rfl ⟨CA, ck, ?_, ?_, ?_⟩
     ·
      have y0 := hq.cell 0
      have y1 := hq.cell 1
      have y2 := hq.cell 2
      have y3 := hq.cell 3
      have y4 := hq.cell 4
      have y5 := hq.cell 5
      have y6 := hq.cell 6
      simp [results, Try.results27, go_sem, y0, y1, y2, y3, y4, y5, y6]
     ·
      have hok : runOk a rs ks = false := by
       unfold runOk
       rw [← HF.out, decide_eq_false (by rw [HKS.out]; have := HNJ.out; omega)]; rfl
      rw [hok, ← HF.out]
     ·
      rw [← HF.out]; exact hout.1
     ·
      rw [HW.out]; exact hout.2
    | true =>
     obtain ⟨jj, rfl, hjj, hxe⟩ := step_at (rs := rs) (s := t.st) (k := kv) (by rw [HSR.out])
     have hok2 : St.ok ⟨ta, tb, tc⟩ m := by
      have h := step_ok HG.out HFT.out HSM.out.2.2.2 (k := (jj : Int)) (by rw [HSR.out])
      rw [HSR.out] at h; exact h
     have HGO2 : Hid (runGo rs (ks.drop (j + 1)) (t.add rs[jj] ⟨ta, tb, tc⟩) = runT rs ks) := by unfold Hid; have := hGO.out; rw [hxe] at this; simpa using this
     have hxm := List.getElem_mem hjj
     obtain ⟨z1, z2, z3⟩ := sound_sizes HG.out hxm
     obtain ⟨b, o, rfl, hB, hcc⟩ := HRW10.out (by omega)
     obtain ⟨A8, k8, e0, _⟩ := hcc jj hjj
     have HOK2 := Lib.hid hok2
     have d0 := (HR10.out.hb.cell (p := ⟨bk, ok + j, none⟩) (by show bk < _; omega)).trans DK.out
     have t2 := HR10.out.ht.cell 2
     have o0 := HR10.out.ho.cell 0
     have f0 := HR10.out.ho.free 0
     simp only [List.getElem?_toArray, List.getElem?_cons_zero, List.getElem?_cons_succ] at t2 o0
     have hjn2 : (jj : Int) < (n : Int) := by have := HN.out; omega
     have hjj0 : (0 : Int) ≤ (jj : Int) := by omega
     have hsm1 := HSM.out.1
     have hsm2 := HSM.out.2.1
     have HS3 := Lib.hid HSM.out.2.2.1
     have hnb : t.n ≤ 1000000 := by have := HS3.out; omega
     have HSS := Lib.hid (strOf_size t.p)
     have hsum : ¬ 9223372036854775807 < (strOf t.p).size + (rs[jj]'hjj).p.size := by have := HSS.out; omega
     obtain ⟨x, hx⟩ : ∃ x, rs[jj]'hjj = x := ⟨_, rfl⟩
     rw [hx] at e0 z1 z2 z3 hsum HGO2
     have HXE := Lib.hid hx
     clear hcc hGO hxe hxm hok2 hx
     go_upto_region 8 with fail
     go_region
     have hgc : g10 ≠ c := Blk.type_ne HD10.out HR10.out.ho (by decide)
     have HR11 : Hid (RB w p c m a (some ⟨b, o, none⟩) n k (w10.setCell ⟨c, 0, none⟩ (.string (strOf t.p ++ x.p))).drew ⟨t.p ++ (bytes x.p).map (fun b : Nat => (b : Int)), t.c, t.n, t.st⟩ cv) := by
      refine (HR10.out.put ⟨t.p ++ (bytes x.p).map (fun b : Nat => (b : Int)), t.c, t.n, t.st⟩ (fun q hq => Below.heap_setCell _ ⟨c, 0, none⟩ _ q hq) rfl ?_ (HR10.out.hb.setCell (by have := HR10.out.hpc; show p ≤ c; omega) _)).drew
      have := HR10.out.ho.set 0 (.string (strOf t.p ++ x.p))
      rw [strOf_app]
      exact this
     have HD11 : Hid (Blk (w10.setCell ⟨c, 0, none⟩ (.string (strOf t.p ++ x.p))).drew g10 47 #[.int .i64 ta, .int .i64 tb, .int .u8 tc]) := (Below.heap_setCell _ ⟨c, 0, none⟩ _ g10 hgc).trans HD10.out
     clear HD10 HR10 d0 t2 o0 f0 e0 hsum HSS hB HRW10
     generalize (w10.setCell ⟨c, 0, none⟩ (.string (strOf t.p ++ x.p))).drew = w11 at *
     have HR11d := Lib.hid HR11.out.drew
     have HRU : Hid (Rules w11 w11.heap.size (some ⟨b, o, none⟩) rs) := (HR.out.keep HR11.out.hb).more (by have := HR11.out.hb.size; have := HW.out; omega)
     obtain ⟨hB, hra⟩ := rules_at HRU.out hjj
     rw [HXE.out] at hra
     obtain ⟨A9, k9, _, e1, _, _, _, _, hsq, _⟩ := hra
     obtain ⟨bx, ox, e9, hbx, hcx⟩ := hsq (by omega)
     subst e9
     have d0 := (HR11.out.hb.cell (p := ⟨bk, ok + j, none⟩) (by show bk < _; omega)).trans DK.out
     have t2 := HR11.out.ht.cell 2
     have o1 := HR11.out.ho.cell 1
     have f1 := HR11.out.ho.free 1
     simp only [List.getElem?_toArray, List.getElem?_cons_zero, List.getElem?_cons_succ] at t2 o1
     have HNW : Hid (∀ (i : Nat) (u : Value), (x.c.map (Value.int .u8))[i]? = some u → w11.drew.cell? ((⟨bx, ox, none⟩ : Addr).add i) = some u) := fun i u hu => by
      rw [List.getElem?_map] at hu
      cases hi : x.c[i]? with
      | none => rw [hi] at hu; cases hu
      | some z =>
       rw [hi] at hu
       injection hu with hu
       have hil := (List.getElem?_eq_some_iff.1 hi)
       rw [plain_add, ← hu, ← hil.2]
       exact hcx i hil.1
     clear hcx hsq
     obtain ⟨i1, hj1, hy0, hy1, hy2⟩ := info_parts info_cell
     have s1 : Hid (w11.drew.ownsRow (c + 1) 96 1 cv t.c.length (t.c.map (Value.int .u8))) := HR11d.out.hc
     have s2 : Hid (c + 1 ≤ w11.drew.heap.size) := HR11d.out.ho.lt
     have s3 := Lib.hid HR11d.out.ho
     have hcl2 : t.c.length + x.c.length ≤ 4000004 := by omega
     go_wp2_with fail
     go_region_law (refine step_append_own rfl (.tmp 45) (.tmp 54) 32 rfl (c + 1) 96 i1 (.int .u8 0) 1 1 Try.underlying32 hj1 hy0 hy1 hy2 rfl (by decide) cv t.c.length (t.c.map (Value.int .u8)) (by simp [Act.eval]) s1.out ⟨bx, ox, none⟩ x.c.length k9 (x.c.map (Value.int .u8)) (by simp [Act.eval]) (by simp) HNW.out (ints_oneCell .u8 x.c) (by unfold maxLen; omega) (by omega) s2.out ?_; intro v' w' h1' h2'; obtain ⟨AN, kN, rfl⟩ := own_shape h1'; have o9 := Lib.hid (Blk.row s1.out h2' s3.out (by decide)); have c9 := o9.out.cell 1; have f9 := o9.out.free 1; simp only [List.getElem?_toArray, List.getElem?_cons_zero, List.getElem?_cons_succ] at c9)
     all_goals
      have HR12 := Lib.hid (RB.cells HR11d.out h1' h2')
      have HD12 : Hid (Blk (w'.setCell ⟨c, 1, none⟩ (.slice AN (t.c.length + x.c.length) kN)) g10 47 #[.int .i64 ta, .int .i64 tb, .int .u8 tc]) := (Below.heap_setCell _ ⟨c, 1, none⟩ _ g10 hgc).trans (Blk.row s1.out h2' (w := w11.drew) HD11.out (by decide))
      clear h1' h2' c9 f9 o9 s1 s2 s3 HNW HR11 HR11d HD11 HRU d0 t2 o1 f1 e1
      generalize w'.setCell ⟨c, 1, none⟩ (.slice AN (t.c.length + x.c.length) kN) = w12 at *
      have o2 := HR12.out.ho.cell 2
      have o3 := HR12.out.ho.cell 3
      have o4 := HR12.out.ho.cell 4
      have o5 := HR12.out.ho.cell 5
      have f2 := HR12.out.ho.free 2
      have f3 := HR12.out.ho.free 3
      have f4 := HR12.out.ho.free 4
      have f5 := HR12.out.ho.free 5
      have d0 := HD12.out.cell 0
      have d1 := HD12.out.cell 1
      have d2 := HD12.out.cell 2
      simp only [List.getElem?_toArray, List.getElem?_cons_zero, List.getElem?_cons_succ] at o2 o3 o4 o5 d0 d1 d2
      go_wp2_with fail
      have HR13 : RB w p c m a (some ⟨b, o, none⟩) n k ((((w12.setCell ⟨c, 3, none⟩ (.int .i64 ta)).setCell ⟨c, 4, none⟩ (.int .i64 tb)).setCell ⟨c, 5, none⟩ (.int .u8 tc)).setCell ⟨c, 2, none⟩ (.int .i64 ((t.n : Int) + 1))) (t.add x ⟨ta, tb, tc⟩) (.slice AN (t.c.length + x.c.length) kN) := by
       have hpc := HR12.out.hpc
       refine HR12.out.put (t.add x ⟨ta, tb, tc⟩) (fun q hq => ?_) rfl ?_ ((((HR12.out.hb.setCell (by show p ≤ c; omega) _).setCell (by show p ≤ c; omega) _).setCell (by show p ≤ c; omega) _).setCell (by show p ≤ c; omega) _)
       ·
        exact (((Below.heap_setCell _ ⟨c, 2, none⟩ _ q hq).trans (Below.heap_setCell _ ⟨c, 5, none⟩ _ q hq)).trans (Below.heap_setCell _ ⟨c, 4, none⟩ _ q hq)).trans (Below.heap_setCell _ ⟨c, 3, none⟩ _ q hq)
       ·
        have h := (((HR12.out.ho.set 3 (.int .i64 ta)).set 4 (.int .i64 tb)).set 5 (.int .u8 tc)).set 2 (.int .i64 ((t.n : Int) + 1))
        exact h
      refine ⟨⟨j + 1, t.add x ⟨ta, tb, tc⟩, .slice AN (t.c.length + x.c.length) kN, by go_num, HL.out, ⟨?_, ?_, ?_, HOK2.out⟩, HGO2.out, HR13⟩, ?_⟩
      ·
       show (t.p ++ (bytes x.p).map fun b : Nat => (b : Int)).length ≤ _
       rw [List.length_append, List.length_map, bytes_len]; omega
      ·
       show (t.c ++ x.c).length ≤ _
       rw [List.length_append]; omega
      ·
       show t.n + 1 = j + 1
       have := HS3.out; omega
      ·
       have := HL.out; simp [intOf]; omega
  ·
   have hje : j = pn := by omega
   have HF : Hid (t = runT rs ks) := by
    unfold Hid
    rw [← hgo, List.drop_eq_nil_of_le (by have := HKS.out; omega)]; rfl
   have hnj := hsm.2.2.1
   have HSF := Lib.hid (hsm.2.2.2.fit hm.2)
   have HNJ : Hid (t.n = pn) := by unfold Hid; omega
   clear hra hsm hgo hnj
   go_wp2_with fail
   refine (rAccepts_any m a A n k t.st ha HSF.out wr).mono ?_
   rw [HAC.out]
   rintro e wy ⟨rfl, hby⟩
   have HRY := Lib.hid (HRA.out.below hby)
   clear hby t0 t1 t2 c3 c4 c5 HRA
   obtain ⟨CA, ck, rfl⟩ := own_shape HRY.out.hc
   have o0 := HRY.out.ho.cell 0
   have o1 := HRY.out.ho.cell 1
   have o2 := HRY.out.ho.cell 2
   have o3 := HRY.out.ho.cell 3
   have o4 := HRY.out.ho.cell 4
   have o5 := HRY.out.ho.cell 5
   have o6 := HRY.out.ho.cell 6
   have g6 := HRY.out.ho.free 6
   have z0 := HRY.out.hz.cell 0
   have z1 := HRY.out.hz.cell 1
   have z2 := HRY.out.hz.cell 2
   have z3 := HRY.out.hz.cell 3
   have z4 := HRY.out.hz.cell 4
   have z5 := HRY.out.hz.cell 5
   have z6 := HRY.out.hz.cell 6
   have f0 := HRY.out.hz.free 0
   have f1 := HRY.out.hz.free 1
   have f2 := HRY.out.hz.free 2
   have f3 := HRY.out.hz.free 3
   have f4 := HRY.out.hz.free 4
   have f5 := HRY.out.hz.free 5
   have f6 := HRY.out.hz.free 6
   have hpc := HRY.out.hpc
   have hpne : ¬ (c = p + 1) := by omega
   have hpne2 : ¬ (p + 1 = c) := by omega
   simp only [List.getElem?_toArray, List.getElem?_cons_zero, List.getElem?_cons_succ] at o0 o1 o2 o3 o4 o5 o6 z0 z1 z2 z3 z4 z5 z6
   go_wp2_with fail
   have HRZ : Hid (Blk (wy.setCell ⟨c, 6, none⟩ (.bool (accB a t.st))) (p + 1) 49 #[.string ⟨#[]⟩, .slice none 0 0, .int .i64 0, .int .i64 0, .int .i64 0, .int .u8 0, .bool false]) := (Below.heap_setCell _ ⟨c, 6, none⟩ _ (p + 1) hpne2).trans HRY.out.hz
   have HOZ : Hid ((wy.setCell ⟨c, 6, none⟩ (.bool (accB a t.st))).ownsRow (c + 1) 96 1 (.slice CA t.c.length ck) t.c.length (t.c.map (Value.int .u8))) := own_move HRY.out.hc fun q hq => by
    have h1 := (HRY.out.hc.lt q hq).1
    exact Below.heap_setCell _ ⟨c, 6, none⟩ _ q (show q ≠ c by omega)
   have HBZ : Hid (Below p w (wy.setCell ⟨c, 6, none⟩ (.bool (accB a t.st)))) := HRY.out.hb.setCell (by show p ≤ c; omega) _
   have hq := ((((((HRZ.out.set 0 (.string (strOf t.p))).set 1 (.slice CA t.c.length ck)).set 2 (.int .i64 (t.n : Nat))).set 3 (.int .i64 t.st.mode)).set 4 (.int .i64 t.st.last)).set 5 (.int .u8 t.st.need)).set 6 (.bool (accB a t.st))
   have hout := trace_out HRZ.out (own_seqT HOZ.out) HBZ.out (Nat.le_succ p) (.string (strOf t.p)) (.slice CA t.c.length ck) (.int .i64 (t.n : Nat)) (.int .i64 t.st.mode) (.int .i64 t.st.last) (.int .u8 t.st.need) (.bool (accB a t.st))
   clear z0 z1 z2 z3 z4 z5 z6 f0 f1 f2 f3 f4 f5 f6 o0 o1 o2 o3 o4 o5 o6 g6
   refine bodyPost_ret (v := .agg #[.string (strOf t.p), .slice CA t.c.length ck, .int .i64 (t.n : Nat), .int .i64 t.st.mode, .int .i64 t.st.last, .int .u8 t.st.need, .bool (accB a t.st)]) ?_ rfl ⟨CA, ck, ?_, ?_, ?_⟩
   ·
    have y0 := hq.cell 0
    have y1 := hq.cell 1
    have y2 := hq.cell 2
    have y3 := hq.cell 3
    have y4 := hq.cell 4
    have y5 := hq.cell 5
    have y6 := hq.cell 6
    simp [results, Try.results27, go_sem, y0, y1, y2, y3, y4, y5, y6]
   ·
    have hok : runOk a rs ks = accB a t.st := by
     unfold runOk
     rw [← HF.out, decide_eq_true (by rw [HKS.out]; exact HNJ.out)]; rfl
    rw [hok, ← HF.out]
   ·
    rw [← HF.out]; exact hout.1
   ·
    rw [HW.out]; exact hout.2
end Go.Proofs.Ytpkdlljefkbmpaa
