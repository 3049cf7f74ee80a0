/- Merged by program: Tr7 Tr8 -/
import Derived.Test.YtpkdlljefkbmpaaT2
import Derived.Test.YtpkdlljefkbmpaaQ16
import Derived.WalkMore
import Derived.Deep.LoopGhost
import Derived.Test.YtpkdlljefkbmpaaQ23

/-! Package translate: the rules decrease the costs at a place. -/
namespace Go.Proofs.Ytpkdlljefkbmpaa
open Go.RowKit Go.Maps
def RowsOk (a : Int) (rs : List Rule) (s : List Nat) (M : Nat) (h : Tb) (i : Nat) : Prop := (∀ i', i ≤ i' → i' ≤ s.length → RowR a rs s M h i') ∧ (∀ i', i ≤ i' → i' ≤ s.length → RowC rs s h i' (fun _ => True))
def RowsIn (a : Int) (rs : List Rule) (s : List Nat) (M : Nat) (h : Tb) (i : Nat) (P : Nat → Prop) : Prop := (∀ i', i ≤ i' → i' ≤ s.length → RowR a rs s M h i') ∧ (∀ i', i < i' → i' ≤ s.length → RowC rs s h i' (fun _ => True)) ∧ RowC rs s h i P
section
variable {m a : Int} {rs : List Rule} {s : List Nat} {M : Nat} {h : Tb} {i j : Nat}
theorem up_by {i' : Nat} (hi : i < i') (x : Rule) (mo v : Nat) : byV (h.put i mo v) s x i' = byV h s x i' := by
 unfold byV
 split
 ·
  rw [put_row _ _ _ _ _ _ (by omega)]
 ·
  rfl
theorem dec_rows {P : Nat → Prop} (hG : GoodL m a rs) (hM : m = M) (hi : i ≤ s.length) (hj : j < rs.length) (hP : ∀ k (hk : k < rs.length), P k → rs[k].p.size ≠ 0) (H : RowsIn a rs s M h i P) : RowsIn a rs s M (h.dec i rs[j].f.toNat (byV h s rs[j] i)) i P := by
 unfold Tb.dec
 split
 ·
  rename_i hlt
  refine ⟨putR hG hM hi hj H.1 hlt, fun i' h1 h2 k hk hp => ?_, putC H.2.2 hP hlt⟩
  rw [up_by h1, put_row _ _ _ _ _ _ (by omega)]
  exact H.2.1 i' h1 h2 k hk hp
 ·
  exact H
theorem dec_one (hj : j < rs.length) (hp : rs[j].p.size ≠ 0) : (h.dec i rs[j].f.toNat (byV h s rs[j] i)) i rs[j].f.toNat ≤ byV (h.dec i rs[j].f.toNat (byV h s rs[j] i)) s rs[j] i := by
 unfold Tb.dec
 split
 ·
  rw [put_by hp, put_same]; exact Nat.le_refl _
 ·
  rename_i hlt; omega
theorem rows_weak {P Q : Nat → Prop} (H : RowsIn a rs s M h i P) (hq : ∀ k, k < rs.length → Q k → P k) : RowsIn a rs s M h i Q := ⟨H.1, H.2.1, fun k hk hp => H.2.2 k hk (hq k hk hp)⟩
theorem rows_more {P : Nat → Prop} (H : RowsIn a rs s M h i P) (hj : j < rs.length) (h1 : h i rs[j].f.toNat ≤ byV h s rs[j] i) : RowsIn a rs s M h i (fun k => P k ∨ k = j) := ⟨H.1, H.2.1, fun k hk hp => by
 rcases hp with hp | rfl
 ·
  exact H.2.2 k hk hp
 ·
  exact h1⟩
theorem rows_all (H : RowsIn a rs s M h i (fun _ => True)) : RowsOk a rs s M h i := ⟨H.1, fun i' h1 h2 => by
 rcases Nat.lt_or_ge i i' with g | g
 ·
  exact H.2.1 i' g h2
 ·
  have e : i' = i := by omega
  subst e; exact H.2.2⟩
end
def ImpEnd (w0 : World) (q : Nat) (m a : Int) (A : Option Addr) (n k : Nat) (rs : List Rule) (s : ByteArray) (PV SV : Value) (ps ss : List Nat) (cg M B1 : Nat) (g : Nat → Nat) (i : Nat) (e : Ending) (w' : World) : Prop :=
 e = .returned (.tuple #[]) ∧ ∃ h', WkM w0 q m a A n k rs s PV SV ps ss cg M B1 i g h' w' ∧ RowsOk a rs (bytes s) M h' i
def Sorted2 (rs : List Rule) (ps ss : List Nat) : Prop := (∀ j ∈ ps, ∃ hj : j < rs.length, rs[j].p.size ≠ 0) ∧ (∀ j ∈ ss, ∃ hj : j < rs.length, rs[j].p.size = 0) ∧ (∀ j (hj : j < rs.length), (rs[j].p.size ≠ 0 → j ∈ ps) ∧ (rs[j].p.size = 0 → j ∈ ss)) ∧ ps.length ≤ rs.length ∧ ss.length ≤ rs.length
def CapI (w : World) (c2 c3 c4 q i gi M : Nat) : Prop := Blk w c2 123 #[.pointer (some ⟨q, 0, none⟩)] ∧ Blk w c3 3 #[.int .i64 i] ∧ Blk w c4 43 #[.slice (some ⟨gi, 0, none⟩) M M]
theorem CapI.after {w w' : World} {c2 c3 c4 q i gi M : Nat} (h : CapI w c2 c3 c4 q i gi M) (h2 : c2 ≠ gi) (h3 : c3 ≠ gi) (h4 : c4 ≠ gi) (hk : ∀ b, b < w.heap.size → b ≠ gi → w'.heap[b]? = w.heap[b]?) : CapI w' c2 c3 c4 q i gi M :=
 ⟨(hk c2 h.1.lt h2).trans h.1, (hk c3 h.2.1.lt h3).trans h.2.1, (hk c4 h.2.2.lt h4).trans h.2.2⟩
theorem CapI.keep {w w' : World} {c2 c3 c4 q i gi M : Nat} (h : CapI w c2 c3 c4 q i gi M) (hb : Below w.heap.size w w') : CapI w' c2 c3 c4 q i gi M := ⟨h.1.keep hb h.1.lt, h.2.1.keep hb h.2.1.lt, h.2.2.keep hb h.2.2.lt⟩
theorem rows_top {a : Int} {rs : List Rule} {s : List Nat} {M : Nat} {h : Tb} {i : Nat} {P : Nat → Prop} (H : RowsIn a rs s M h i P) : ∀ i' mo, i ≤ i' → i' ≤ s.length → mo < M → h i' mo ≤ imp := fun i' mo h1 h2 h3 => (H.1 i' h1 h2 mo h3).1
set_option maxRecDepth 10000 in
set_option maxHeartbeats 4000000 in
theorem improve_any (w0 : World) (q : Nat) (m a : Int) (A : Option Addr) (n k : Nat) (rs : List Rule) (s : ByteArray) (PV SV : Value) (ps ss : List Nat) (cg M B1 : Nat) (g : Nat → Nat) (h : Tb) (i : Nat) (w : World) (hn : rs.length = n) (hG : GoodL m a rs) (hm : 1 ≤ m ∧ m ≤ 8) (hM : m = M) (hmax : n ≤ 64) (hs : s.size < 2 ^ 40) (hi : i ≤ s.size) (hps : Sorted2 rs ps ss)
  (H : WkM w0 q m a A n k rs s PV SV ps ss cg M B1 i g h w) (hR : RowsIn a rs (bytes s) M h i (fun _ => False)) :
  Calls Try.prog 119 #[.pointer (some ⟨q, 0, none⟩), .int .i64 i] w (ImpEnd w0 q m a A n k rs s PV SV ps ss cg M B1 g i) := by
 have hmf : ∀ (fn : Fn) (first cap : Array Value) (w : World), (Instr.makeFunc fn first cap).run Try.prog w = .ok (.func fn first cap) w := fun _ _ _ _ => rfl
 have HP0 : Hid (Below w.heap.size w ((w.alloc (.cells #[.pointer (some ⟨q, 0, none⟩)] 123)).alloc (.cells #[.int .i64 i] 3)) ∧ Blk ((w.alloc (.cells #[.pointer (some ⟨q, 0, none⟩)] 123)).alloc (.cells #[.int .i64 i] 3)) w.heap.size 123 #[.pointer (some ⟨q, 0, none⟩)] ∧ Blk ((w.alloc (.cells #[.pointer (some ⟨q, 0, none⟩)] 123)).alloc (.cells #[.int .i64 i] 3)) (w.heap.size + 1) 3 #[.int .i64 i]) := by
  have n2 := Blk.new (w.alloc (.cells #[.pointer (some ⟨q, 0, none⟩)] 123)) #[.int .i64 i] 3
  have e : (w.alloc (.cells #[.pointer (some ⟨q, 0, none⟩)] 123)).heap.size = w.heap.size + 1 := by simp
  rw [e] at n2
  exact ⟨((Below.refl _ _).alloc (Nat.le_refl _) _).alloc (by simp) _, (Blk.new _ _ _).box, n2⟩
 have HGL : Hid (g i < w.heap.size) := (H.co.ro i (Nat.le_refl _) (by omega)).lt
 have HH := Lib.hid H
 have HRS := Lib.hid hR
 have HSO := Lib.hid hps
 have hpl : ps.length ≤ 64 := by have := hps.2.2.2.1; omega
 have hsl : ss.length ≤ 64 := by have := hps.2.2.2.2; omega
 clear H hR hps
 go_enter Try.func119, Try.ntmps119
 go_upto_region 1 with fail
 generalize (w.alloc (.cells #[.pointer (some ⟨q, 0, none⟩)] 123)).alloc (.cells #[.int .i64 i] 3) = V at *
 obtain ⟨c2, hc2⟩ : ∃ c2, w.heap.size = c2 := ⟨_, rfl⟩
 rw [hc2] at HP0 HGL
 simp only [hc2]
 have HC2 := Lib.hid hc2
 clear hc2
 obtain ⟨c3, hc3⟩ : ∃ c3, c2 + 1 = c3 := ⟨_, rfl⟩
 rw [hc3] at HP0
 simp only [hc3]
 have HC3 := Lib.hid hc3
 clear hc3
 have HV : Hid (WkM w0 q m a A n k rs s PV SV ps ss cg M B1 i g h V) := HH.out.next (by rw [HC2.out]; exact HP0.out.1)
 clear HH
 have p2 := HP0.out.2.1.cell 0
 have p3 := HP0.out.2.2.cell 0
 have w6 := HV.out.wk.cell 6
 have r0 := HV.out.co.co.cell i
 rw [rowOf_get _ _ _ (by omega), if_pos (Nat.le_refl _)] at r0
 simp only [List.getElem?_toArray, List.getElem?_cons_zero, List.getElem?_cons_succ] at p2 p3 w6
 have hi0 : (0 : Int) ≤ (i : Int) := by omega
 have hil : (i : Int) < (s.size : Int) + 1 := by omega
 have hBA := below_box V #[.slice none 0 0] 43
 have p2a := (hBA.cell (p := ⟨c2, 0, none⟩) HP0.out.2.1.lt).trans p2
 have p3a := (hBA.cell (p := ⟨c3, 0, none⟩) HP0.out.2.2.lt).trans p3
 have w6a := (hBA.cell (p := ⟨q, 6, none⟩) HV.out.wk.lt).trans w6
 have r0a := (hBA.cell (p := ⟨cg, i, none⟩) HV.out.co.co.lt).trans r0
 clear hBA
 go_step3
 go_upto_region 1 with fail
 go_region
 go_upto_region 3 with fail
 have hbv := below_box V #[.slice (some ⟨g i, 0, none⟩) M M] 43
 have HCP : Hid (CapI (V.alloc (.cells #[.slice (some ⟨g i, 0, none⟩) M M] 43)).drew c2 c3 V.heap.size q i (g i) M) := ⟨HP0.out.2.1.keep hbv.drew HP0.out.2.1.lt, HP0.out.2.2.keep hbv.drew HP0.out.2.2.lt, Blk.new _ _ _⟩
 have HV3 : Hid (WkM w0 q m a A n k rs s PV SV ps ss cg M B1 i g h (V.alloc (.cells #[.slice (some ⟨g i, 0, none⟩) M M] 43)).drew) := HV.out.next hbv.drew
 have HN2 : Hid (c2 ≠ g i) := by have := HGL.out; unfold Hid; omega
 have HN3 : Hid (c3 ≠ g i) := by have := HGL.out; have := HC3.out; unfold Hid; omega
 have HN4 : Hid (V.heap.size ≠ g i) := by have := HP0.out.2.1.lt; have := HGL.out; unfold Hid; omega
 clear hbv HV HP0 p2 p3 w6 r0 p2a p3a w6a r0a hmf HGL HC3 HC2
 generalize (V.alloc (.cells #[.slice (some ⟨g i, 0, none⟩) M M] 43)).drew = V3 at *
 obtain ⟨c4, hc4⟩ : ∃ c4, V.heap.size = c4 := ⟨_, rfl⟩
 rw [hc4] at HCP HN4
 simp only [hc4]
 clear hc4
 obtain ⟨PA, pk, rfl⟩ := own_shape HV3.out.pr.own
 obtain ⟨SA, sk, rfl⟩ := own_shape HV3.out.si.own
 have p2 := HCP.out.1.cell 0
 have w4 := HV3.out.wk.cell 4
 simp only [List.getElem?_toArray, List.getElem?_cons_zero, List.getElem?_cons_succ] at p2 w4
 go_wp2_with fail
 go_loopg [23] ps.length (fun gk s23 wx => ∃ (c : Nat) (h' : Tb), c ≤ ps.length ∧ gk = ps.length - c ∧ s23 = .int .i64 c ∧ WkM w0 q m a A n k rs s (.slice PA ps.length pk) (.slice SA ss.length sk) ps ss cg M B1 i g h' wx ∧ CapI wx c2 c3 c4 q i (g i) M ∧ RowsIn a rs (bytes s) M h' i (fun k => k ∈ ps.take c))
 case atStart => exact ⟨0, h, Nat.zero_le _, rfl, rfl, HV3.out, HCP.out, rows_weak HRS.out (fun k _ hk => by simp at hk)⟩
 case round =>
  obtain ⟨c, h1, hc, hgk, rfl, hwm, hcp, hrows⟩ := hrel
  clear p2 w4 HV3 HCP HRS
  have HW1 := Lib.hid hwm
  have HCP1 := Lib.hid hcp
  have HRO := Lib.hid hrows
  have HGK := Lib.hid hgk
  clear hwm hcp hrows hgk
  have hc0 : (0 : Int) ≤ (c : Int) := by omega
  by_cases hlt : c < ps.length
  ·
   have hcn : (c : Int) < (ps.length : Int) := by omega
   obtain ⟨pb, rfl, hpb, hpc⟩ := own_cells HW1.out.pr.own (j := c) (x := .int .i64 (ps[c] : Nat)) (by rw [List.getElem?_map, List.getElem?_eq_getElem hlt]; rfl)
   obtain ⟨hj, hjs⟩ := HSO.out.1 ps[c] (List.getElem_mem hlt)
   have HTK : Hid (ps.take (c + 1) = ps.take c ++ [ps[c]]) := List.take_succ_eq_append_getElem hlt
   generalize ps[c] = j at *
   have HJS := Lib.hid hjs
   clear hjs
   have HD := Lib.hid (decr_any w0 q m a A n k rs s _ _ ps ss cg M B1 g h1 c2 c3 c4 i j wr hn hG hm hM hmax hs hi hj HW1.out (fun i' mo h1 h2 h3 => rows_top HRO.out i' mo h1 (by rw [bytes_len]; exact h2) h3) HCP1.out.1 HCP1.out.2.1 HCP1.out.2.2)
   have HRN : Hid (RowsIn a rs (bytes s) M (h1.dec i rs[j].f.toNat (byV h1 (bytes s) rs[j] i)) i (fun k => k ∈ ps.take (c + 1))) := by
    have h2 := dec_rows (j := j) hG hM (by rw [bytes_len]; exact hi) hj (fun k hk hp => (HSO.out.1 k (List.mem_of_mem_take hp)).2) HRO.out
    have h3 := rows_more h2 hj (dec_one hj HJS.out)
    refine rows_weak h3 (fun k _ hk => ?_)
    rw [HTK.out] at hk
    rcases List.mem_append.1 hk with hk | hk
    ·
     exact .inl hk
    ·
     exact .inr (by simpa using hk)
   clear HTK HRO
   go_wp2_with (go_at_call 156; refine HD.out.mono ?_; rintro e wz ⟨rfl, hz, hkz, hsz⟩)
   have HCZ := Lib.hid (HCP1.out.after HN2.out HN3.out HN4.out hkz)
   go_roundg (ps.length - (c + 1))
   case measure => rw [HGK.out]; omega
   case rel => exact ⟨c + 1, _, hlt, rfl, by go_num, hz, HCZ.out, HRN.out⟩
  ·
   have HROP : Hid (RowsIn a rs (bytes s) M h1 i (fun k => ∃ hk : k < rs.length, rs[k].p.size ≠ 0)) := rows_weak HRO.out (fun k hk ⟨_, h2⟩ => by
    rw [List.take_of_length_le (by omega)]
    exact (HSO.out.2.2.1 k hk).1 h2)
   clear HRO HGK
   go_wp2_with fail
   go_step3
   go_wp2_with fail
   go_loopg [36] (sumTo (h1 i) M) (fun gk _ wx => ∃ (h' : Tb), gk = sumTo (h' i) M ∧ WkM w0 q m a A n k rs s (.slice PA ps.length pk) (.slice SA ss.length sk) ps ss cg M B1 i g h' wx ∧ CapI wx c2 c3 c4 q i (g i) M ∧ RowsIn a rs (bytes s) M h' i (fun k => ∃ hk : k < rs.length, rs[k].p.size ≠ 0))
   case atStart => exact ⟨h1, rfl, HW1.out, HCP1.out, HROP.out⟩
   case round =>
    obtain ⟨h2, hgk, hwm, hcp, hrows⟩ := hrel
    clear HW1 HCP1 HROP
    have HW2 := Lib.hid hwm
    have HCP2 := Lib.hid hcp
    have HRO := Lib.hid hrows
    have HGK := Lib.hid hgk
    clear hwm hcp hrows hgk
    generalize gk = gko at *
    have p2 := HCP2.out.1.cell 0
    have w5 := HW2.out.wk.cell 5
    simp only [List.getElem?_toArray, List.getElem?_cons_zero, List.getElem?_cons_succ] at p2 w5
    go_wp2_with fail
    go_loopg [36] ss.length (fun gi s36 wx => ∃ (d : Nat), d ≤ ss.length ∧ gi = ss.length - d ∧ s36 = .int .i64 d ∧ WkM w0 q m a A n k rs s (.slice PA ps.length pk) (.slice SA ss.length sk) ps ss cg M B1 i g h2 wx ∧ CapI wx c2 c3 c4 q i (g i) M ∧ (∀ x ∈ ss.take d, ∀ hx : x < rs.length, h2 i rs[x].f.toNat ≤ byV h2 (bytes s) rs[x] i))
    case atStart => exact ⟨0, Nat.zero_le _, rfl, rfl, HW2.out, HCP2.out, fun x hx => by simp at hx⟩
    case round =>
     obtain ⟨d, hd, hgi, rfl, hwm, hcp, hdone⟩ := hrel
     clear p2 w5 HW2 HCP2
     have HW3 := Lib.hid hwm
     have HCP3 := Lib.hid hcp
     have HDN := Lib.hid hdone
     have HGI := Lib.hid hgi
     clear hwm hcp hdone hgi
     have hd0 : (0 : Int) ≤ (d : Int) := by omega
     by_cases hlt2 : d < ss.length
     ·
      have hdn : (d : Int) < (ss.length : Int) := by omega
      obtain ⟨sb, rfl, hsb, hsc⟩ := own_cells HW3.out.si.own (j := d) (x := .int .i64 (ss[d] : Nat)) (by rw [List.getElem?_map, List.getElem?_eq_getElem hlt2]; rfl)
      obtain ⟨hj, _⟩ := HSO.out.2.1 ss[d] (List.getElem_mem hlt2)
      have HTK : Hid (ss.take (d + 1) = ss.take d ++ [ss[d]]) := List.take_succ_eq_append_getElem hlt2
      generalize ss[d] = j at *
      have hmo := (modes_ok hG (List.getElem_mem hj)).1
      have HD := Lib.hid (decr_any w0 q m a A n k rs s _ _ ps ss cg M B1 g h2 c2 c3 c4 i j wr hn hG hm hM hmax hs hi hj HW3.out (fun i' mo h1 h2 h3 => rows_top HRO.out i' mo h1 (by rw [bytes_len]; exact h2) h3) HCP3.out.1 HCP3.out.2.1 HCP3.out.2.2)
      have HRN := Lib.hid (dec_rows (j := j) hG hM (by rw [bytes_len]; exact hi) hj (fun _ _ hp => hp.2) HRO.out)
      have HSM : Hid (byV h2 (bytes s) rs[j] i < h2 i rs[j].f.toNat → sumTo (h2.dec i rs[j].f.toNat (byV h2 (bytes s) rs[j] i) i) M < sumTo (h2 i) M) := fun hlt => by
       unfold Tb.dec
       rw [if_pos hlt]
       exact sum_put M (by omega) hlt
      have HSM2 : Hid (¬ byV h2 (bytes s) rs[j] i < h2 i rs[j].f.toNat → h2.dec i rs[j].f.toNat (byV h2 (bytes s) rs[j] i) = h2) := fun hlt => by
       unfold Tb.dec
       rw [if_neg hlt]
      have HDN2 : Hid (¬ byV h2 (bytes s) rs[j] i < h2 i rs[j].f.toNat → ∀ x ∈ ss.take (d + 1), ∀ hx : x < rs.length, h2 i rs[x].f.toNat ≤ byV h2 (bytes s) rs[x] i) := fun hlt x hx hxl => by
       rw [HTK.out] at hx
       rcases List.mem_append.1 hx with hx | hx
       ·
        exact HDN.out x hx hxl
       ·
        obtain rfl : x = j := by simpa using hx
        omega
      clear hmo HTK HDN
      generalize byV h2 (bytes s) rs[j] i = v at *
      generalize rs[j].f.toNat = fm at *
      by_cases hvl : v < h2 i fm
      ·
       have HD2 : Hid (Calls Try.prog 156 #[.int .i64 j, .pointer (some ⟨c2, 0, none⟩), .pointer (some ⟨c3, 0, none⟩), .pointer (some ⟨c4, 0, none⟩)] wr fun e w' => e = .returned (.bool true) ∧ WkM w0 q m a A n k rs s (.slice PA ps.length pk) (.slice (some ⟨sb, 0, none⟩) ss.length sk) ps ss cg M B1 i g (h2.dec i fm v) w' ∧ CapI w' c2 c3 c4 q i (g i) M) := HD.out.mono fun e w' hh => ⟨by rw [hh.1, decide_eq_true hvl], hh.2.1, HCP3.out.after HN2.out HN3.out HN4.out hh.2.2.1⟩
       have HSL := Lib.hid (HSM.out hvl)
       clear hvl HD HSM HSM2 HDN2
       go_wp2_with (go_at_call 156; refine HD2.out.mono ?_; rintro e wz ⟨rfl, hz, hcz⟩)
       go_roundg (sumTo (h2.dec i fm v i) M)
       case measure => rw [HGK.out]; exact HSL.out
       case rel => exact ⟨_, rfl, hz, hcz, HRN.out⟩
      ·
       have HD2 : Hid (Calls Try.prog 156 #[.int .i64 j, .pointer (some ⟨c2, 0, none⟩), .pointer (some ⟨c3, 0, none⟩), .pointer (some ⟨c4, 0, none⟩)] wr fun e w' => e = .returned (.bool false) ∧ WkM w0 q m a A n k rs s (.slice PA ps.length pk) (.slice (some ⟨sb, 0, none⟩) ss.length sk) ps ss cg M B1 i g h2 w' ∧ CapI w' c2 c3 c4 q i (g i) M) := HD.out.mono fun e w' hh => ⟨by rw [hh.1, decide_eq_false hvl], by have h9 := hh.2.1; rw [HSM2.out hvl] at h9; exact h9, HCP3.out.after HN2.out HN3.out HN4.out hh.2.2.1⟩
       have HSL := Lib.hid (HDN2.out hvl)
       clear hvl HD HSM HSM2 HDN2
       go_wp2_with (go_at_call 156; refine HD2.out.mono ?_; rintro e wz ⟨rfl, hz, hcz⟩)
       go_roundg (ss.length - (d + 1))
       case measure => rw [HGI.out]; omega
       case rel => exact ⟨d + 1, hlt2, rfl, by go_num, hz, hcz, HSL.out⟩
     ·
      have HEND : Hid (ImpEnd w0 q m a A n k rs s (.slice PA ps.length pk) (.slice SA ss.length sk) ps ss cg M B1 g i (.returned (.tuple #[])) wr) := by
       refine ⟨rfl, h2, HW3.out, rows_all ⟨HRO.out.1, HRO.out.2.1, fun x hx _ => ?_⟩⟩
       by_cases hz : rs[x].p.size = 0
       ·
        have h3 := (HSO.out.2.2.1 x hx).2 hz
        exact HDN.out x (by rw [List.take_of_length_le (by omega)]; exact h3) hx
       ·
        exact HRO.out.2.2 x hx ⟨hx, hz⟩
      clear HW3 HRO HDN HCP3 HGI HGK
      go_wp2_with fail
      try rw [Exit.noGoto_ret]
      go_end0
      exact HEND.out
end Go.Proofs.Ytpkdlljefkbmpaa

/-! Package translate: a work is made: its lists of rules, its table of costs. -/
namespace Go.Proofs.Ytpkdlljefkbmpaa
open Go.RowKit Go.Maps
def prtI (rs : List Rule) (j : Nat) : List Nat := (List.range j).filter fun i => decide ((rs.getD i Rule.none).p.size ≠ 0)
def silI (rs : List Rule) (j : Nat) : List Nat := (List.range j).filter fun i => decide ((rs.getD i Rule.none).p.size = 0)
theorem prtI_yes {rs : List Rule} {j : Nat} (hj : j < rs.length) (h : rs[j].p.size ≠ 0) : prtI rs (j + 1) = prtI rs j ++ [j] ∧ silI rs (j + 1) = silI rs j := by
 have e : rs.getD j Rule.none = rs[j] := by rw [List.getD_eq_getElem?_getD, List.getElem?_eq_getElem hj, Option.getD_some]
 unfold prtI silI
 rw [List.range_succ, List.filter_append, List.filter_append]
 simp only [List.filter_cons, List.filter_nil, e]
 simp [h]
theorem prtI_no {rs : List Rule} {j : Nat} (hj : j < rs.length) (h : rs[j].p.size = 0) : prtI rs (j + 1) = prtI rs j ∧ silI rs (j + 1) = silI rs j ++ [j] := by
 have e : rs.getD j Rule.none = rs[j] := by rw [List.getD_eq_getElem?_getD, List.getElem?_eq_getElem hj, Option.getD_some]
 unfold prtI silI
 rw [List.range_succ, List.filter_append, List.filter_append]
 simp only [List.filter_cons, List.filter_nil, e]
 simp [h]
theorem prtI_len (rs : List Rule) (j : Nat) : (prtI rs j).length ≤ j ∧ (silI rs j).length ≤ j := by
 have h1 := List.length_filter_le (fun i => decide ((rs.getD i Rule.none).p.size ≠ 0)) (List.range j)
 have h2 := List.length_filter_le (fun i => decide ((rs.getD i Rule.none).p.size = 0)) (List.range j)
 rw [List.length_range] at h1 h2
 exact ⟨h1, h2⟩
theorem prtI_sorted (rs : List Rule) : Sorted2 rs (prtI rs rs.length) (silI rs rs.length) := by
 have e : ∀ j (hj : j < rs.length), rs.getD j Rule.none = rs[j] := fun j hj => by rw [List.getD_eq_getElem?_getD, List.getElem?_eq_getElem hj, Option.getD_some]
 refine ⟨fun j hj => ?_, fun j hj => ?_, fun j hj => ⟨fun h => ?_, fun h => ?_⟩, (prtI_len rs _).1, (prtI_len rs _).2⟩
 ·
  obtain ⟨h1, h2⟩ := List.mem_filter.1 hj
  rw [List.mem_range] at h1
  rw [e j h1] at h2
  exact ⟨h1, of_decide_eq_true h2⟩
 ·
  obtain ⟨h1, h2⟩ := List.mem_filter.1 hj
  rw [List.mem_range] at h1
  rw [e j h1] at h2
  exact ⟨h1, of_decide_eq_true h2⟩
 ·
  exact List.mem_filter.2 ⟨List.mem_range.2 hj, by rw [e j hj]; exact decide_eq_true h⟩
 ·
  exact List.mem_filter.2 ⟨List.mem_range.2 hj, by rw [e j hj]; exact decide_eq_true h⟩
structure NW (M : Nat) (a : Int) (A : Option Addr) (n k : Nat) (s : ByteArray) (q cg B0 : Nat) (ps ss : List Nat) (PV SV : Value) (w : World) : Prop where
 wk : WkB w q M a A n k s PV SV (.slice (some ⟨cg, 0, none⟩) (s.size + 1) (s.size + 1))
 co : Blk w cg 43 (rowOf (fun _ => .slice none 0 0) (s.size + 1))
 pr : w.ownsRow B0 3 1 PV ps.length (ps.map fun i : Nat => Value.int .i64 i)
 si : w.ownsRow B0 3 1 SV ss.length (ss.map fun i : Nat => Value.int .i64 i)
 ne : ∀ b, PV.ownBlock = some b → SV.ownBlock ≠ some b
section
variable {M : Nat} {a : Int} {A : Option Addr} {n k : Nat} {s : ByteArray} {q cg B0 : Nat} {ps ss : List Nat} {PV SV : Value} {w w' : World}
theorem NW.next (H : NW M a A n k s q cg B0 ps ss PV SV w) (hb : Below w.heap.size w w') : NW M a A n k s q cg B0 ps ss PV SV w' := ⟨H.wk.keep hb H.wk.lt, H.co.keep hb H.co.lt, own_keep H.pr hb, own_keep H.si hb, H.ne⟩
theorem NW.addP {v : Value} {j : Nat} (H : NW M a A n k s q cg B0 ps ss PV SV w) (ho : w'.ownsRow B0 3 1 v (ps.length + 1) ((ps.map fun i : Nat => Value.int .i64 i) ++ [.int .i64 j])) (hg : w.grownBy w' PV.ownBlock) (hl : v.ownBlock = PV.ownBlock ∨ ∃ f, v.ownBlock = some f ∧ w.heap.size ≤ f) : NW M a A n k s q cg B0 (ps ++ [j]) ss v SV (w'.setCell ⟨q, 4, none⟩ v) := by
 have hw : WkB w' q M a A n k s PV SV (.slice (some ⟨cg, 0, none⟩) (s.size + 1) (s.size + 1)) := (hg.block q H.wk.lt (own_ne3 H.pr H.wk (by decide)).symm).trans H.wk
 have hc : Blk w' cg 43 (rowOf (fun _ => .slice none 0 0) (s.size + 1)) := (hg.block cg H.co.lt (own_ne3 H.pr H.co (by decide)).symm).trans H.co
 have hs : w'.ownsRow B0 3 1 SV ss.length (ss.map fun i : Nat => Value.int .i64 i) := own_move H.si fun b hb => by
  obtain ⟨cur, hcur⟩ := own_blk H.si hb
  exact hg.block b hcur.lt (fun e => H.ne b e.symm hb)
 refine ⟨hw.set 4 v, (Below.heap_setCell w' ⟨q, 4, none⟩ v cg (Blk.type_ne hc hw (by decide))).trans hc, ?_, own_set hs hw (by decide) v, fun b hb hb2 => ?_⟩
 ·
  have h := own_set (i := 4) ho hw (by decide) v
  simpa using h
 ·
  rcases hl with e | ⟨f, e, hf⟩
  ·
   exact H.ne b (by rw [← e]; exact hb) hb2
  ·
   rw [e] at hb
   injection hb with hb
   subst hb
   obtain ⟨cur, hcur⟩ := own_blk H.si hb2
   have := hcur.lt
   omega
theorem NW.addS {v : Value} {j : Nat} (H : NW M a A n k s q cg B0 ps ss PV SV w) (ho : w'.ownsRow B0 3 1 v (ss.length + 1) ((ss.map fun i : Nat => Value.int .i64 i) ++ [.int .i64 j])) (hg : w.grownBy w' SV.ownBlock) (hl : v.ownBlock = SV.ownBlock ∨ ∃ f, v.ownBlock = some f ∧ w.heap.size ≤ f) : NW M a A n k s q cg B0 ps (ss ++ [j]) PV v (w'.setCell ⟨q, 5, none⟩ v) := by
 have hw : WkB w' q M a A n k s PV SV (.slice (some ⟨cg, 0, none⟩) (s.size + 1) (s.size + 1)) := (hg.block q H.wk.lt (own_ne3 H.si H.wk (by decide)).symm).trans H.wk
 have hc : Blk w' cg 43 (rowOf (fun _ => .slice none 0 0) (s.size + 1)) := (hg.block cg H.co.lt (own_ne3 H.si H.co (by decide)).symm).trans H.co
 have hs : w'.ownsRow B0 3 1 PV ps.length (ps.map fun i : Nat => Value.int .i64 i) := own_move H.pr fun b hb => by
  obtain ⟨cur, hcur⟩ := own_blk H.pr hb
  exact hg.block b hcur.lt (fun e => H.ne b hb e.symm)
 refine ⟨hw.set 5 v, (Below.heap_setCell w' ⟨q, 5, none⟩ v cg (Blk.type_ne hc hw (by decide))).trans hc, own_set hs hw (by decide) v, ?_, fun b hb hb2 => ?_⟩
 ·
  have h := own_set (i := 5) ho hw (by decide) v
  simpa using h
 ·
  rcases hl with e | ⟨f, e, hf⟩
  ·
   exact H.ne b hb (by rw [← e]; exact hb2)
  ·
   rw [e] at hb2
   injection hb2 with hb2
   subst hb2
   obtain ⟨cur, hcur⟩ := own_blk H.pr hb
   have := hcur.lt
   omega
end
section
variable {w0 w : World} {q : Nat} {m a : Int} {A : Option Addr} {n k : Nat} {rs : List Rule} {s : ByteArray} {PV SV : Value} {ps ss : List Nat} {cg M B1 t gb : Nat} {g : Nat → Nat} {h : Tb} {f : Nat → Nat}
theorem WkM.row (H : WkM w0 q m a A n k rs s PV SV ps ss cg M B1 (t + 1) g h w) (ht : t ≤ s.size) (hblk : Blk w gb 3 (rowOf (fun mo => .int .i64 (f mo : Nat)) M)) (hgb : B1 ≤ gb) (hne : ∀ i, t + 1 ≤ i → i ≤ s.size → g i ≠ gb) : WkM w0 q m a A n k rs s PV SV ps ss cg M B1 t (fun i => if i = t then gb else g i) (fun i mo => if i = t then f mo else h i mo) (w.setCell ⟨cg, t, none⟩ (.slice (some ⟨gb, 0, none⟩) M M)) := by
 have key : ∀ b, b ≠ cg → (w.setCell ⟨cg, t, none⟩ (.slice (some ⟨gb, 0, none⟩) M M)).heap[b]? = w.heap[b]? := fun b hb => Below.heap_setCell _ ⟨cg, t, none⟩ _ b hb
 have hsz : (w.setCell ⟨cg, t, none⟩ (.slice (some ⟨gb, 0, none⟩) M M)).heap.size = w.heap.size := by simp
 have hcn : ∀ {b row}, Blk w b 3 row → b ≠ cg := fun hb => Blk.type_ne hb H.co.co (by decide)
 refine ⟨(key q (fun e => Blk.type_ne H.wk H.co.co (by decide) e)).trans H.wk, ⟨?_, fun i h1 h2 => ?_, fun i j h1 h2 h3 => ?_⟩, H.pr.move fun b _ ⟨_, hc⟩ => key b (hcn hc), H.si.move fun b _ ⟨_, hc⟩ => key b (hcn hc), H.ru, H.bb.setCell (by show w0.heap.size ≤ cg; exact H.bq.2.1) _, ⟨H.bq.1, H.bq.2.1, H.bq.2.2.1, by rw [hsz]; exact H.bq.2.2.2⟩, fun i h1 h2 => ?_⟩
 ·
  have h1 := H.co.co.set t (.slice (some ⟨gb, 0, none⟩) M M)
  rw [rowOf_set _ (fun i => if t ≤ i then .slice (some ⟨if i = t then gb else g i, 0, none⟩) M M else .slice none 0 0) _ _ _ (by rw [if_pos (Nat.le_refl _), if_pos rfl]) (fun i hi => by
   by_cases e : t + 1 ≤ i
   ·
    rw [if_pos e, if_pos (by omega), if_neg hi]
   ·
    rw [if_neg e, if_neg (by omega)])] at h1
  exact h1
 ·
  by_cases e : i = t
  ·
   subst e
   have h3 := (key gb (hcn hblk)).trans hblk
   simp only [if_true]
   exact h3
  ·
   have h3 := H.co.ro i (by omega) h2
   have h4 := (key (g i) (hcn h3)).trans h3
   simp only [if_neg e]
   exact h4
 ·
  by_cases e : i = t
  ·
   subst e
   simp only [if_true]
   rw [if_neg (by omega)]
   exact (hne j (by omega) (by omega)).symm
  ·
   simp only [if_neg e]
   rw [if_neg (by omega)]
   exact H.co.inj i j (by omega) h2 h3
 ·
  by_cases e : i = t
  ·
   simp only [if_pos e]; exact hgb
  ·
   simp only [if_neg e]; exact H.bg i (by omega) h2
theorem rows_end {l : List Nat} (H : RowsOk a rs l M h (t + 1)) : RowsIn a rs l M (fun i mo => if i = t then endV a l t mo else h i mo) t (fun _ => False) := by
 have hby : ∀ i' (x : Rule), t < i' → byV (fun i mo => if i = t then endV a l t mo else h i mo) l x i' = byV h l x i' := fun i' x hi => by
  unfold byV
  split
  ·
   dsimp only
   rw [if_neg (by omega)]
  ·
   rfl
 refine ⟨fun i' h1 h2 => ?_, fun i' h1 h2 j hj _ => ?_, fun _ _ hp => hp.elim⟩
 ·
  by_cases e : i' = t
  ·
   subst e
   intro mo hmo
   simp only [if_true]
   unfold endV
   by_cases hF : finP a l (i', (mo : Int)) = true
   ·
    rw [if_pos hF]
    exact ⟨Nat.zero_le _, fun _ => ⟨[], gdE_nil.2 hF, rfl⟩, fun _ => rfl⟩
   ·
    rw [if_neg hF]
    exact ⟨Nat.le_refl _, fun h => absurd h (Nat.lt_irrefl _), fun h => absurd h hF⟩
  ·
   intro mo hmo
   have g := H.1 i' (by omega) h2 mo hmo
   simp only [if_neg e]
   exact g
 ·
  rw [hby i' _ h1]
  have g := H.2 i' (by omega) h2 j hj trivial
  simp only [if_neg (show i' ≠ t by omega)]
  exact g
end
def NwEnd (w0 : World) (m a : Int) (A : Option Addr) (n k : Nat) (rs : List Rule) (s : ByteArray) (M : Nat) (e : Ending) (w' : World) : Prop :=
 ∃ q PV SV ps ss cg B1 g h, e = .returned (.pointer (some ⟨q, 0, none⟩)) ∧ WkM w0 q m a A n k rs s PV SV ps ss cg M B1 0 g h w' ∧ RowsOk a rs (bytes s) M h 0
set_option maxRecDepth 10000 in
set_option maxHeartbeats 4000000 in
theorem newWork_any (m a : Int) (A : Option Addr) (n k : Nat) (rs : List Rule) (s : ByteArray) (M : Nat) (w : World) (hn : rs.length = n) (hR : Rules w w.heap.size A rs) (hG : GoodL m a rs) (hm : 1 ≤ m ∧ m ≤ 8) (ha : 0 ≤ a ∧ a < 256) (hM : m = M) (hmax : n ≤ 64) (hs : s.size < 2 ^ 40) :
  Calls Try.prog 71 #[.agg #[.int .i64 m, .int .u8 a, .slice A n k], .string s] w (NwEnd w m a A n k rs s M) := by
 subst hM
 subst hn
 have HB := Lib.hid (below_box w #[.int .i64 M, .int .u8 a, .slice A rs.length k] 30)
 have HT := Lib.hid (Blk.new w #[.int .i64 M, .int .u8 a, .slice A rs.length k] 30)
 have HR := Lib.hid (hR.up HB.out)
 have HRW := Lib.hid hR
 have HG := Lib.hid hG
 clear hR hG
 go_enter Try.func71, Try.ntmps71
 go_upto_region 1 with fail
 generalize w.alloc (.cells #[.int .i64 M, .int .u8 a, .slice A rs.length k] 30) = V at *
 obtain ⟨p, hp⟩ : ∃ p, w.heap.size = p := ⟨_, rfl⟩
 rw [hp] at HT
 simp only [hp]
 have HP := Lib.hid hp
 clear hp
 have hmk : (Instr.makeSlice 72 (.int .i64 ((s.size : Int) + 1)) (.int .i64 ((s.size : Int) + 1))).run Try.prog V.drew = .ok (.slice (some ⟨V.drew.heap.size, 0, none⟩) (s.size + 1) (s.size + 1)) (V.drew.alloc (.cells (rowOf (fun _ => .slice none 0 0) (s.size + 1)) 43)) := by
  have h := make_rows V.drew (s.size + 1) (by omega)
  rw [Int.natCast_add] at h
  exact h
 have t0 := HT.out.cell 0
 have t1 := HT.out.cell 1
 have t2 := HT.out.cell 2
 simp only [List.getElem?_toArray, List.getElem?_cons_zero, List.getElem?_cons_succ] at t0 t1 t2
 have hsz0 : (0 : Int) ≤ (s.size : Int) := by omega
 have hbA := below_box V (rowOf (fun _ => .slice none 0 0) (s.size + 1)) 43
 have t0a := (hbA.cell (p := ⟨p, 0, none⟩) HT.out.lt).trans t0
 have t1a := (hbA.cell (p := ⟨p, 1, none⟩) HT.out.lt).trans t1
 have t2a := (hbA.cell (p := ⟨p, 2, none⟩) HT.out.lt).trans t2
 go_region
 clear hmk t0a t1a t2a hbA t0 t1
 obtain ⟨cg, hcg⟩ : ∃ cg, V.heap.size = cg := ⟨_, rfl⟩
 have HQC : Hid (w.heap.size ≤ cg) := by rw [← hcg]; exact HB.out.size
 have HPL := Lib.hid HT.out.lt
 have hb1 := below_box V (rowOf (fun _ => .slice none 0 0) (s.size + 1)) 43
 have n1 := Blk.new V (rowOf (fun _ => .slice none 0 0) (s.size + 1)) 43
 have s1 : (V.alloc (.cells (rowOf (fun _ => .slice none 0 0) (s.size + 1)) 43)).heap.size = cg + 1 := by simp [hcg]
 simp only [hcg]
 rw [hcg] at n1
 generalize V.alloc (.cells (rowOf (fun _ => .slice none 0 0) (s.size + 1)) 43) = V1 at *
 have hb2 := below_box V1 #[.int .i64 M, .int .u8 a, .slice A rs.length k, .string s, .slice none 0 0, .slice none 0 0, .slice (some ⟨cg, 0, none⟩) (s.size + 1) (s.size + 1)] 197
 have n2 := Blk.new V1 #[.int .i64 M, .int .u8 a, .slice A rs.length k, .string s, .slice none 0 0, .slice none 0 0, .slice (some ⟨cg, 0, none⟩) (s.size + 1) (s.size + 1)] 197
 rw [s1] at n2
 have hn1 := n1.keep hb2 n1.lt
 have HBV : Hid (Below w.heap.size w (V1.alloc (.cells #[.int .i64 M, .int .u8 a, .slice A rs.length k, .string s, .slice none 0 0, .slice none 0 0, .slice (some ⟨cg, 0, none⟩) (s.size + 1) (s.size + 1)] 197)).drew) := below_next HB.out (below_next hb1 hb2).drew
 have HT2 : Hid (Blk (V1.alloc (.cells #[.int .i64 M, .int .u8 a, .slice A rs.length k, .string s, .slice none 0 0, .slice none 0 0, .slice (some ⟨cg, 0, none⟩) (s.size + 1) (s.size + 1)] 197)).drew p 30 #[.int .i64 M, .int .u8 a, .slice A rs.length k]) := HT.out.keep (below_next hb1 hb2).drew HT.out.lt
 have HNW : Hid (NW M a A rs.length k s (cg + 1) cg w.heap.size (prtI rs 0) (silI rs 0) (.slice none 0 0) (.slice none 0 0) (V1.alloc (.cells #[.int .i64 M, .int .u8 a, .slice A rs.length k, .string s, .slice none 0 0, .slice none 0 0, .slice (some ⟨cg, 0, none⟩) (s.size + 1) (s.size + 1)] 197)).drew) := ⟨n2, hn1, World.ownsRow_nil _ _ _ _, World.ownsRow_nil _ _ _ _, fun b hb => by cases hb⟩
 have HRV : Hid (Rules (V1.alloc (.cells #[.int .i64 M, .int .u8 a, .slice A rs.length k, .string s, .slice none 0 0, .slice none 0 0, .slice (some ⟨cg, 0, none⟩) (s.size + 1) (s.size + 1)] 197)).drew (V1.alloc (.cells #[.int .i64 M, .int .u8 a, .slice A rs.length k, .string s, .slice none 0 0, .slice none 0 0, .slice (some ⟨cg, 0, none⟩) (s.size + 1) (s.size + 1)] 197)).drew.heap.size A rs) := HRW.out.up HBV.out
 clear hb1 hb2 n1 n2 hn1 s1 HB HT HR HPL t2
 generalize (V1.alloc (.cells #[.int .i64 M, .int .u8 a, .slice A rs.length k, .string s, .slice none 0 0, .slice none 0 0, .slice (some ⟨cg, 0, none⟩) (s.size + 1) (s.size + 1)] 197)).drew = V4 at *
 have t2 := HT2.out.cell 2
 simp only [List.getElem?_toArray, List.getElem?_cons_zero, List.getElem?_cons_succ] at t2
 clear hcg
 obtain ⟨q, hq⟩ : ∃ q, cg + 1 = q := ⟨_, rfl⟩
 rw [hq] at HNW
 simp only [hq]
 have HQ : Hid (w.heap.size ≤ q) := by have := HQC.out; exact (show w.heap.size ≤ q from by omega)
 clear hq
 obtain ⟨i0, hi, hz0, hz1, hz2⟩ := info_parts info_int
 go_wp2_with fail
 go_loopg [20] rs.length (fun gk s20 wx => ∃ (j : Nat) (PV SV : Value), j ≤ rs.length ∧ gk = rs.length - j ∧ s20 = .int .i64 j ∧ NW M a A rs.length k s q cg w.heap.size (prtI rs j) (silI rs j) PV SV wx ∧ Below w.heap.size w wx)
 case atStart => exact ⟨0, _, _, Nat.zero_le _, rfl, rfl, HNW.out, HBV.out⟩
 case round =>
  obtain ⟨j, PV, SV, hj, hgk, rfl, hnw, hbw⟩ := hrel
  clear HNW HBV HT2 HRV t2
  have HN1 := Lib.hid hnw
  have HB1 := Lib.hid hbw
  have HGK := Lib.hid hgk
  clear hnw hbw hgk
  have hj0 : (0 : Int) ≤ (j : Int) := by omega
  by_cases hlt : j < rs.length
  ·
   have hjn : (j : Int) < (rs.length : Int) := by omega
   obtain ⟨b, o, CA, ck, rfl, hb, c0, c1, c2, c3, c4, c5, hsq, hfit⟩ := rules_row (HRW.out.up HB1.out) hlt
   have HPI : Hid ((rs[j].p.size ≠ 0 → prtI rs (j + 1) = prtI rs j ++ [j] ∧ silI rs (j + 1) = silI rs j) ∧ (rs[j].p.size = 0 → prtI rs (j + 1) = prtI rs j ∧ silI rs (j + 1) = silI rs j ++ [j])) := ⟨prtI_yes hlt, prtI_no hlt⟩
   have hpl := prtI_len rs j
   obtain ⟨ps, hps⟩ : ∃ ps, prtI rs j = ps := ⟨_, rfl⟩
   obtain ⟨ss, hss⟩ : ∃ ss, silI rs j = ss := ⟨_, rfl⟩
   rw [hps, hss] at HPI HN1 hpl
   clear hps hss
   generalize rs[j] = x at *
   clear hsq hfit
   obtain ⟨PA, pk, rfl⟩ := own_shape HN1.out.pr
   obtain ⟨SA, sk, rfl⟩ := own_shape HN1.out.si
   have hbx := below_box wr #[.string x.p, .slice CA x.c.length ck, .int .u8 x.l, .int .u8 x.r, .int .i64 x.f, .int .i64 x.t] 99
   have HX : Hid (Blk (wr.alloc (.cells #[.string x.p, .slice CA x.c.length ck, .int .u8 x.l, .int .u8 x.r, .int .i64 x.f, .int .i64 x.t] 99)) wr.heap.size 99 #[.string x.p, .slice CA x.c.length ck, .int .u8 x.l, .int .u8 x.r, .int .i64 x.f, .int .i64 x.t]) := Blk.new _ _ _
   have HNX := Lib.hid (HN1.out.next hbx)
   have HBX := Lib.hid (below_next HB1.out hbx)
   clear hbx HN1 HB1
   go_upto_region 5 with fail
   generalize wr.alloc (.cells #[.string x.p, .slice CA x.c.length ck, .int .u8 x.l, .int .u8 x.r, .int .i64 x.f, .int .i64 x.t] 99) = W at *
   obtain ⟨cx, hcx⟩ : ∃ cx, wr.heap.size = cx := ⟨_, rfl⟩
   rw [hcx] at HX
   simp only [hcx]
   clear hcx c0 c1 c2 c3 c4 c5 hb
   have x0 := HX.out.cell 0
   have y4 := HNX.out.wk.cell 4
   have y5 := HNX.out.wk.cell 5
   simp only [List.getElem?_toArray, List.getElem?_cons_zero, List.getElem?_cons_succ] at x0 y4 y5
   have hwl : w.heap.size ≤ W.heap.size := HBX.out.size
   clear HX
   by_cases hz : x.p.size = 0
   ·
    have hq0 : x.p.toList.isEmpty = true := (empty_iff x.p).2 hz
    have HPJ := Lib.hid (HPI.out.2 hz)
    clear HPI hz
    go_wp2_with (at_builtin; refine wpList_append_own_at _ rfl _ _ 43 rfl w.heap.size 3 i0 (.int .i64 0) 1 8 Try.underlying43 hi hz0 hz1 hz2 rfl (by decide) (.slice SA ss.length sk) ss.length _ rfl (HNX.out.si.alloc _) ⟨W.heap.size, 0, none⟩ 1 1 [.int .i64 j] rfl rfl (cell_one_new _ _ _) (ints_oneCell .i64 [(j : Int)]) (by unfold maxLen; omega) (by omega) (by simp; omega) ?_)
    intro v2 w2 hown2 hgr2 _ hloc2
    obtain ⟨A2, k2, rfl⟩ := own_shape hown2
    have hgr : W.grownBy w2 (Value.slice SA ss.length sk).ownBlock := (World.grownBy_alloc _ _ _).trans hgr2
    have HNN := Lib.hid (HNX.out.addS hown2 hgr (hloc2.imp id fun e => ⟨_, e, by simp⟩))
    have HBN : Hid (Below w.heap.size w (w2.setCell ⟨q, 5, none⟩ (.slice A2 (ss.length + 1) k2))) := (HBX.out.grown hgr HBX.out.size (fun g hg => (HNX.out.si.lt g hg).1)).setCell (by show w.heap.size ≤ q; exact HQ.out) _
    have HK : Hid (w2.cell? ⟨q, 5, none⟩ = some (.slice SA ss.length sk) ∧ w2.frozen? ⟨q, 5, none⟩ = false) := by
     have hw : WkB w2 q M a (some ⟨b, o, none⟩) rs.length k s (.slice PA ps.length pk) (.slice SA ss.length sk) (.slice (some ⟨cg, 0, none⟩) (s.size + 1) (s.size + 1)) := (hgr.block q HNX.out.wk.lt (own_ne3 HNX.out.si HNX.out.wk (by decide)).symm).trans HNX.out.wk
     exact ⟨hw.cell 5, hw.free 5⟩
    obtain ⟨hc5, hf5⟩ := HK.out
    clear hown2 hgr2 hloc2 hgr HNX HBX HK x0 y4 y5
    go_wp2_with fail
    go_roundg (rs.length - (j + 1))
    case measure => rw [HGK.out]; omega
    case rel => exact ⟨j + 1, _, _, by omega, rfl, by go_num, by rw [HPJ.out.1, HPJ.out.2]; exact HNN.out, HBN.out⟩
   ·
    have hq0 : x.p.toList.isEmpty = false := empty_no hz
    have HPJ := Lib.hid (HPI.out.1 hz)
    clear HPI hz
    go_wp2_with (at_builtin; refine wpList_append_own_at _ rfl _ _ 43 rfl w.heap.size 3 i0 (.int .i64 0) 1 8 Try.underlying43 hi hz0 hz1 hz2 rfl (by decide) (.slice PA ps.length pk) ps.length _ rfl (HNX.out.pr.alloc _) ⟨W.heap.size, 0, none⟩ 1 1 [.int .i64 j] rfl rfl (cell_one_new _ _ _) (ints_oneCell .i64 [(j : Int)]) (by unfold maxLen; omega) (by omega) (by simp; omega) ?_)
    intro v2 w2 hown2 hgr2 _ hloc2
    obtain ⟨A2, k2, rfl⟩ := own_shape hown2
    have hgr : W.grownBy w2 (Value.slice PA ps.length pk).ownBlock := (World.grownBy_alloc _ _ _).trans hgr2
    have HNN := Lib.hid (HNX.out.addP hown2 hgr (hloc2.imp id fun e => ⟨_, e, by simp⟩))
    have HBN : Hid (Below w.heap.size w (w2.setCell ⟨q, 4, none⟩ (.slice A2 (ps.length + 1) k2))) := (HBX.out.grown hgr HBX.out.size (fun g hg => (HNX.out.pr.lt g hg).1)).setCell (by show w.heap.size ≤ q; exact HQ.out) _
    have HK : Hid (w2.cell? ⟨q, 4, none⟩ = some (.slice PA ps.length pk) ∧ w2.frozen? ⟨q, 4, none⟩ = false) := by
     have hw : WkB w2 q M a (some ⟨b, o, none⟩) rs.length k s (.slice PA ps.length pk) (.slice SA ss.length sk) (.slice (some ⟨cg, 0, none⟩) (s.size + 1) (s.size + 1)) := (hgr.block q HNX.out.wk.lt (own_ne3 HNX.out.pr HNX.out.wk (by decide)).symm).trans HNX.out.wk
     exact ⟨hw.cell 4, hw.free 4⟩
    obtain ⟨hc5, hf5⟩ := HK.out
    clear hown2 hgr2 hloc2 hgr HNX HBX HK x0 y4 y5
    go_wp2_with fail
    go_roundg (rs.length - (j + 1))
    case measure => rw [HGK.out]; omega
    case rel => exact ⟨j + 1, _, _, by omega, rfl, by go_num, by rw [HPJ.out.1, HPJ.out.2]; exact HNN.out, HBN.out⟩
  ·
   obtain rfl : j = rs.length := by omega
   clear HGK
   obtain ⟨PA, pk, rfl⟩ := own_shape HN1.out.pr
   obtain ⟨SA, sk, rfl⟩ := own_shape HN1.out.si
   have HSO := Lib.hid (prtI_sorted rs)
   obtain ⟨ps, hps⟩ : ∃ ps, prtI rs rs.length = ps := ⟨_, rfl⟩
   obtain ⟨ss, hss⟩ : ∃ ss, silI rs rs.length = ss := ⟨_, rfl⟩
   rw [hps, hss] at HN1 HSO
   clear hps hss
   have HW0 : Hid (WkM w q M a A rs.length k rs s (.slice PA ps.length pk) (.slice SA ss.length sk) ps ss cg M wr.heap.size (s.size + 1) (fun _ => 0) (fun _ _ => 0) wr) := by
    refine ⟨HN1.out.wk, ⟨?_, fun i h1 h2 => by omega, fun i j h1 h2 h3 => by omega⟩, ⟨HN1.out.pr, fun b hb => ?_⟩, ⟨HN1.out.si, fun b hb => ?_⟩, HRW.out, HB1.out, ⟨HQ.out, HQC.out, HB1.out.size, Nat.le_refl _⟩, fun i h1 h2 => by omega⟩
    ·
     have h := HN1.out.co
     rw [rowOf_congr (g := fun i => if s.size + 1 ≤ i then .slice (some ⟨0, 0, none⟩) M M else .slice none 0 0) (fun i hi => by rw [if_neg (by omega)])] at h
     exact h
    ·
     obtain ⟨cur, hc⟩ := own_blk HN1.out.pr hb
     exact hc.lt
    ·
     obtain ⟨cur, hc⟩ := own_blk HN1.out.si hb
     exact hc.lt
   clear HN1
   generalize wr.heap.size = B1 at *
   go_wp2_with fail
   go_loopg [8] (s.size + 1) (fun gk s8 wx => ∃ (c : Nat) (ti : Int) (g : Nat → Nat) (h : Tb), c ≤ s.size + 1 ∧ gk = c ∧ s8 = .int .i64 ti ∧ ti = (c : Int) - 1 ∧ WkM w q M a A rs.length k rs s (.slice PA ps.length pk) (.slice SA ss.length sk) ps ss cg M B1 c g h wx ∧ RowsOk a rs (bytes s) M h c)
   case atStart => exact ⟨s.size + 1, _, _, _, Nat.le_refl _, rfl, rfl, by omega, HW0.out, fun i h1 h2 => by rw [bytes_len] at h2; omega, fun i h1 h2 => by rw [bytes_len] at h2; omega⟩
   case round =>
    obtain ⟨c, ti, g, h, hc, hgk, rfl, hti, hwm, hrows⟩ := hrel
    clear HW0 HB1 hj hj0 hlt
    have HWW := Lib.hid hwm
    have HRO := Lib.hid hrows
    have HGK := Lib.hid hgk
    clear hwm hrows hgk
    generalize wr = W at *
    cases c with
    | zero =>
     obtain rfl : ti = -1 := by omega
     clear hti hc
     have HEND : Hid (NwEnd w M a A rs.length k rs s M (.returned (.pointer (some ⟨q, 0, none⟩))) W) := ⟨q, _, _, ps, ss, cg, B1, g, h, rfl, HWW.out, HRO.out⟩
     clear HWW HRO HGK
     go_wp2_with fail
     go_ret
     exact HEND.out
    | succ t =>
     obtain rfl : ti = (t : Int) := by omega
     clear hti
     have ht0 : (0 : Int) ≤ (t : Int) := by omega
     have htl : (t : Int) < (s.size : Int) + 1 := by omega
     have HQL := Lib.hid HWW.out.wk.lt
     have w6 := HWW.out.wk.cell 6
     simp only [List.getElem?_toArray, List.getElem?_cons_zero, List.getElem?_cons_succ] at w6
     go_upto_region 12 with fail
     refine wp_region_head 9 0 (by kernel_rfl) (fun y => (.agg #[.int .i64 ↑M, .int .u8 a, .slice A rs.length k]) :: (.string s) :: (.pointer (some ⟨p, 0, none⟩)) :: undef :: (.pointer none) :: (.pointer (some ⟨q, 0, none⟩)) :: u6 :: u7 :: (.int .i64 ↑t) :: (.agg #[.int .i64 ↑M, .int .u8 a, .slice A rs.length k]) :: (.string s) :: (.string s) :: (.int .i64 ↑s.size) :: (.int .i64 (↑s.size + 1)) :: (.slice (some ⟨cg, 0, none⟩) (s.size + 1) (s.size + 1)) :: (.agg #[.int .i64 ↑M, .int .u8 a, .slice A rs.length k, Value.string s, .slice none 0 0, .slice none 0 0, .slice (some ⟨cg, 0, none⟩) (s.size + 1) (s.size + 1)]) :: (.pointer (some ⟨q, 0, none⟩)) :: (.pointer (some ⟨p, 2, none⟩)) :: (.slice A rs.length k) :: (.int .i64 ↑rs.length) :: (.int .i64 ↑rs.length) :: (.bool false) :: u22 :: u23 :: u24 :: u25 :: u26 :: u27 :: u28 :: u29 :: u30 :: u31 :: u32 :: u33 :: u34 :: u35 :: u36 :: u37 :: u38 :: u39 :: u40 :: u41 :: u42 :: u43 :: u44 :: u45 :: u46 :: u47 :: u48 :: (.string s) :: (.int .i64 ↑s.size) :: (.int .i64 ↑t) :: (.bool true) :: u53 :: u54 :: y 0 :: y 1 :: y 2 :: y 3 :: y 4 :: y 5 :: y 6 :: y 7 :: y 8 :: u64 :: u65 :: u66 :: undef :: [])
      (fun _ w' => Below W.heap.size W w') (phiP [pv (.pointer (some ⟨q, 0, none⟩)), pv (.pointer (some ⟨q, 0, none⟩)), pv (.pointer (some ⟨q, 6, none⟩)), pv (.slice (some ⟨cg, 0, none⟩) (s.size + 1) (s.size + 1)), pv (.int .i64 t), pv (.pointer (some ⟨q, 0, none⟩)), pv (.int .i64 t), pq (fun (gb : Nat) => .slice (some ⟨gb, 0, none⟩) M M) (fun (gb : Nat) w => W.heap.size ≤ gb ∧ Blk w gb 3 (rowOf (fun mo => .int .i64 (endV a (bytes s) t mo : Nat)) M)), pv (.pointer (some ⟨cg, t, none⟩))]) (fun i => match i with | 0 => u55 | 1 => u56 | 2 => u57 | 3 => u58 | 4 => u59 | 5 => u60 | 6 => u61 | 7 => u62 | 8 => u63 | _ => undef)
      (by kernel_rfl) (by kernel_rfl) (by kernel_rfl) (by kernel_rfl) (fun i v wa wb h hb => phiP_keep (stay_cons (pv_st) (stay_cons (pv_st) (stay_cons (pv_st) (stay_cons (pv_st) (stay_cons (pv_st) (stay_cons (pv_st) (stay_cons (pv_st) (stay_cons (pq_st (fun _ _ _ h hb => ⟨h.1, h.2.keep hb h.2.lt⟩)) (stay_cons (pv_st) stay_nil))))))))) h hb) (Below.refl _ _).drew [0, 1, 2, 3, 4, 5, 6, 7, 8] (by kernel_rfl) ?_ ?_
     ·
      refine allCons ?_ (allCons ?_ (allCons ?_ (allCons ?_ (allCons ?_ (allCons ?_ (allCons ?_ (allCons ?_ (allCons ?_ (allNil)))))))))
      all_goals intro y w10 K hS hd hK
      ·
       refine wpOp_step rfl (fun K2 hK2 => ?_)
       go_simp
       exact hK2 _ _ (hK _ _ hS rfl (Below.refl _ _))
      ·
       have e0 : y 0 = _ := hd 0 rfl
       obtain ⟨y, rfl⟩ := upd_at (y := y) (i := 0) e0
       dsimp [upd]
       refine wpOp_step rfl (fun K2 hK2 => ?_)
       go_simp
       exact hK2 _ _ (hK _ _ hS rfl (Below.refl _ _))
      ·
       have e1 : y 1 = _ := hd 1 rfl
       obtain ⟨y, rfl⟩ := upd_at (y := y) (i := 1) e1
       dsimp [upd]
       refine wpOp_step rfl (fun K2 hK2 => ?_)
       go_simp
       exact hK2 _ _ (hK _ _ hS rfl (Below.refl _ _))
      ·
       have e2 : y 2 = _ := hd 2 rfl
       obtain ⟨y, rfl⟩ := upd_at (y := y) (i := 2) e2
       dsimp [upd]
       have q6 := (hS.cell (p := ⟨q, 6, none⟩) HQL.out).trans w6
       refine wpOp_step rfl (fun K2 hK2 => ?_)
       go_simp
       exact hK2 _ _ (hK _ _ hS rfl (Below.refl _ _))
      ·
       refine wpOp_step rfl (fun K2 hK2 => ?_)
       go_simp
       exact hK2 _ _ (hK _ _ hS rfl (Below.refl _ _))
      ·
       refine wpOp_step rfl (fun K2 hK2 => ?_)
       go_simp
       exact hK2 _ _ (hK _ _ hS rfl (Below.refl _ _))
      ·
       refine wpOp_step rfl (fun K2 hK2 => ?_)
       go_simp
       exact hK2 _ _ (hK _ _ hS rfl (Below.refl _ _))
      ·
       have e5 : y 5 = _ := hd 5 rfl
       have e6 : y 6 = _ := hd 6 rfl
       obtain ⟨y, rfl⟩ := upd_at (y := y) (i := 5) e5
       obtain ⟨y, rfl⟩ := upd_at (y := y) (i := 6) e6
       dsimp [upd]
       refine wpOp_step rfl (fun K2 hK2 => ?_)
       go_simp
       refine (ends_any q M a A rs.length k s _ _ _ t M w10 hm ha rfl hs (by omega) (HWW.out.next hS).wk).mono ?_
       rintro e' w2 ⟨gb, rfl, hgb, hblk, hb⟩
       exact hK2 _ _ (hK _ _ (below_next hS hb) ⟨gb, rfl, Nat.le_trans hS.size hgb, hblk⟩ hb)
      ·
       have e3 : y 3 = _ := hd 3 rfl
       have e4 : y 4 = _ := hd 4 rfl
       obtain ⟨y, rfl⟩ := upd_at (y := y) (i := 3) e3
       obtain ⟨y, rfl⟩ := upd_at (y := y) (i := 4) e4
       dsimp [upd]
       refine wpOp_step rfl (fun K2 hK2 => ?_)
       go_simp
       exact hK2 _ _ (hK _ _ hS rfl (Below.refl _ _))
     ·
      intro y w10 f hS hd
      obtain ⟨gb, e7, hgb, hblk⟩ := hd 7 (by decide)
      have e8 : y 8 = _ := hd 8 (by decide)
      clear hd
      obtain ⟨y, rfl⟩ := upd_at (y := y) (i := 7) e7
      obtain ⟨y, rfl⟩ := upd_at (y := y) (i := 8) e8
      dsimp [upd]
      have HW10 := Lib.hid (HWW.out.next hS)
      have c0 := HW10.out.co.co.cell t
      have f0 := HW10.out.co.co.free t
      rw [rowOf_get _ _ _ (by omega), if_neg (by omega)] at c0
      refine wpAny_one (i := 9) (by kernel_rfl) ?_
      refine wpOp_step rfl (fun K2 hK2 => ?_)
      go_simp
      refine hK2 _ _ ?_
      clear hK2 K2 e7 e8
      refine wpAny_done (by kernel_rfl) ?_ _
      have HGB : Hid (B1 ≤ gb) := by have := HWW.out.bq.2.2.2; exact (show B1 ≤ gb from by omega)
      have HNE : Hid (∀ i, t + 1 ≤ i → i ≤ s.size → g i ≠ gb) := fun i h1 h2 => by
       have := (HWW.out.co.ro i h1 (by omega)).lt
       omega
      have HWN := Lib.hid (HW10.out.row (f := endV a (bytes s) t) (by omega) hblk HGB.out HNE.out)
      have HRN := Lib.hid (rows_end HRO.out)
      clear HGB HNE HW10 hblk hgb hS HWW HRO c0 f0 w6 HQL
      generalize w10.setCell ⟨cg, t, none⟩ (.slice (some ⟨gb, 0, none⟩) M M) = wn at *
      go_wp2_with fail
      refine (improve_any w q M a A rs.length k rs s _ _ ps ss cg M B1 _ _ t wn rfl HG.out hm rfl hmax hs (by omega) HSO.out HWN.out HRN.out).mono ?_
      rintro e wz ⟨rfl, h', hz, hzr⟩
      have HZ := Lib.hid hz
      have HZR := Lib.hid hzr
      clear hz hzr HWN HRN
      go_wp2_with fail
      go_roundg t
      case measure => rw [HGK.out]; omega
      case rel => exact ⟨t, _, _, h', by omega, rfl, rfl, rfl, HZ.out, HZR.out⟩
end Go.Proofs.Ytpkdlljefkbmpaa
