/- Merged by program: Tm1 Tm2 -/
import Derived.Test.YtpkdlljefkbmpaaQ20
import Derived.Test.YtpkdlljefkbmpaaQ23
import Derived.Test.YtpkdlljefkbmpaaT2
import Derived.Test.YtpkdlljefkbmpaaT6

/-! law06: the reference's Text (of numbers), Spelled. -/
namespace Go.Proofs.Ytpkdlljefkbmpaa
open Go.RowKit Go.Maps
def Text3End (w : World) (e : Ending) (w' : World) : Prop := ∃ (S : ByteArray) (b : Bool), e = .returned (.tuple #[.string S, .bool b]) ∧ S.size ≤ 16000 ∧ Below w.heap.size w w'
theorem text3_small {m a : Int} {rs : List Rule} (hG : GoodL m a rs) {ks : List Int} (h : ks = [] ∨ (runOk a rs ks = true ∧ ks.length ≤ 4000)) : (strOf (runT rs ks).p).size ≤ 16000 := by
 rcases h with rfl | ⟨h, hl⟩
 ·
  exact Nat.zero_le _
 ·
  obtain ⟨rp, _⟩ := ok_run h
  obtain ⟨u1, _⟩ := ok_sizes hG h
  rw [rp]
  have h1 := bytes_len (strOf ((prtL rs ks).map fun b : Nat => (b : Int)))
  rw [bytes_strOf prt_bd] at h1
  omega
set_option maxRecDepth 10000 in
set_option maxHeartbeats 1000000 in
theorem text3_any (m a : Int) (A : Option Addr) (n k : Nat) (rs : List Rule) (w : World) (hn : rs.length = n) (hR : Rules w w.heap.size A rs) (hG : GoodL m a rs) (hmax : n ≤ 64) (hm : 1 ≤ m ∧ m ≤ 8) (ha : 0 ≤ a ∧ a < 256) (XA : Option Addr) (xn xk : Nat) (xs : List Int) (hx : xs.length = xn) (hX : Seq w w.heap.size XA xs) (hxs : ∀ z ∈ xs, 0 ≤ z ∧ z < 256) :
  Calls Try.prog 30 #[.agg #[.int .i64 m, .int .u8 a, .slice A n k], .slice XA xn xk] w (Text3End w) := by
 have HB := Lib.hid (below_box w #[.int .i64 m, .int .u8 a, .slice A n k] 30)
 have HT := Lib.hid (Blk.new w #[.int .i64 m, .int .u8 a, .slice A n k] 30)
 have HR := Lib.hid (hR.up HB.out)
 have HXX := Lib.hid (hX.up HB.out)
 have HSM := Lib.hid (fun ks => @text3_small m a rs hG ks)
 have HWK := Lib.hid (fun W hr hs => walk_any m a A n k rs W hn hr hG hmax hm ha XA xn xk xs hx hs hxs)
 have HRN := Lib.hid (fun W PA pk ks hr hs hl => rRun_any m a A n k rs PA ks.length pk ks W hn hr hG hmax hm ha rfl hs hl)
 clear hG hX hR hn hxs
 go_enter Try.func30, Try.ntmps30
 go_upto_region 1 with fail
 generalize w.alloc (.cells #[.int .i64 m, .int .u8 a, .slice A n k] 30) = V at *
 obtain ⟨p, hp⟩ : ∃ p, w.heap.size = p := ⟨_, rfl⟩
 rw [hp] at HT
 simp only [hp]
 have HPW := Lib.hid hp
 clear hp
 have t0 := HT.out.cell 0
 have t1 := HT.out.cell 1
 have t2 := HT.out.cell 2
 simp only [List.getElem?_toArray, List.getElem?_cons_zero, List.getElem?_cons_succ] at t0 t1 t2
 go_wp2_with fail
 refine (HWK.out _ HR.out HXX.out).mono ?_
 rintro e w1 ⟨hb1, PA, pk, ks, hown, hend⟩
 have hks : ks = [] ∨ (runOk a rs ks = true ∧ ks.length ≤ 4000) := by
  rcases hend with ⟨_, h, _⟩ | ⟨_, h1, h2⟩
  ·
   exact .inl h
  ·
   exact .inr ⟨h1, h2⟩
 obtain ⟨pb, rfl⟩ : ∃ pb : Bool, e = .returned (.tuple #[.slice PA ks.length pk, .bool pb]) := by
  rcases hend with ⟨h, _⟩ | ⟨h, _⟩
  ·
   exact ⟨_, h⟩
  ·
   exact ⟨_, h⟩
 have HS := Lib.hid (HSM.out _ hks)
 have HSN := Lib.hid (own_seqN hown)
 have HR1 := Lib.hid (HR.out.up hb1)
 have HT1 := Lib.hid (HT.out.keep hb1 HT.out.lt)
 have HB1 := Lib.hid (below_next HB.out hb1)
 have hkl : ks.length ≤ 1000000 := by
  rcases hks with rfl | ⟨_, h⟩
  ·
   exact Nat.zero_le _
  ·
   omega
 clear hend hown hb1 hks t0 t1 t2 HT HR HB HXX HWK HSM
 have t0 := HT1.out.cell 0
 have t1 := HT1.out.cell 1
 have t2 := HT1.out.cell 2
 simp only [List.getElem?_toArray, List.getElem?_cons_zero, List.getElem?_cons_succ] at t0 t1 t2
 go_wp2_with fail
 refine (HRN.out _ PA pk ks HR1.out HSN.out hkl).mono ?_
 rintro e w2 ⟨CA, ck, rfl, _, hb2⟩
 have HEND : Hid (Text3End w (.returned (.tuple #[.string (strOf (runT rs ks).p), .bool pb])) w2) := ⟨_, _, rfl, HS.out, below_next HB1.out hb2⟩
 clear hb2 HS HSN HR1 HT1 HB1 HRN t0 t1 t2
 generalize runT rs ks = rr at *
 generalize runOk a rs ks = ok at *
 have hfd : ∀ u : World, (Instr.field 49 (.agg #[.string (strOf rr.p), .slice CA rr.c.length ck, .int .i64 (rr.n : Nat), .int .i64 rr.st.mode, .int .i64 rr.st.last, .int .u8 rr.st.need, .bool ok]) 0).run Try.prog u = .ok (.string (strOf rr.p)) u := fun _ => by kernel_rfl
 dsimp only
 go_wp2_with fail
 go_ret2
 exact HEND.out
theorem bytes_appM (a b : ByteArray) : bytes (a ++ b) = bytes a ++ bytes b := by
 unfold bytes
 rw [ByteArray.data_append, Array.toList_append, List.map_append]
def TextsR (rs : List Rule) (n : Nat) (S : ByteArray) : Prop := ∃ ks : List Int, (∀ k ∈ ks, 0 ≤ k ∧ k < (rs.length : Int)) ∧ prtL rs ks = bytes S ∧ ks.length ≤ n
theorem TextsR.mono {rs : List Rule} {n m : Nat} {S : ByteArray} (h : TextsR rs n S) (hn : n ≤ m) : TextsR rs m S := by
 obtain ⟨ks, h1, h2, h3⟩ := h
 exact ⟨ks, h1, h2, Nat.le_trans h3 hn⟩
theorem TextsR.add {rs : List Rule} {n : Nat} {S : ByteArray} (h : TextsR rs n S) {r : Nat} (hr : r < rs.length) : TextsR rs (n + 1) (S ++ (rs[r]'hr).p) := by
 obtain ⟨ks, h1, h2, h3⟩ := h
 refine ⟨ks ++ [(r : Int)], fun k hk => (List.mem_append.1 hk).elim (h1 k) (fun h => by
  obtain rfl : k = (r : Int) := by simpa using h
  exact ⟨by omega, by omega⟩), ?_, by rw [List.length_append]; simp; omega⟩
 rw [bytes_appM, ← h2]
 unfold prtL
 rw [List.flatMap_append, List.flatMap_cons, List.flatMap_nil, List.append_nil, rule_at hr]
def SpelEnd (rs : List Rule) (w : World) (e : Ending) (w' : World) : Prop := ∃ S : ByteArray, e = .returned (.string S) ∧ S.size ≤ 12 ∧ TextsR rs 12 S ∧ Below w.heap.size w w'
set_option maxRecDepth 10000 in
set_option maxHeartbeats 1000000 in
theorem spelled_any (m a : Int) (A : Option Addr) (n k : Nat) (rs : List Rule) (w : World) (hn : rs.length = n) (hR : Rules w w.heap.size A rs) (hmax : n ≤ 64) (h0 : 0 < n) (XA : Option Addr) (xn xk : Nat) (xs : List Int) (hx : xs.length = xn) (hX : Seq w w.heap.size XA xs) (hxs : ∀ z ∈ xs, 0 ≤ z ∧ z < 256) :
  Calls Try.prog 31 #[.agg #[.int .i64 m, .int .u8 a, .slice A n k], .slice XA xn xk] w (SpelEnd rs w) := by
 have HB := Lib.hid (below_box w #[.int .i64 m, .int .u8 a, .slice A n k] 30)
 have HT := Lib.hid (Blk.new w #[.int .i64 m, .int .u8 a, .slice A n k] 30)
 have HR := Lib.hid (hR.up HB.out)
 have HXX := Lib.hid (hX.up HB.out)
 have HXS := Lib.hid hxs
 clear hX hR hxs
 subst hn hx
 go_enter Try.func31, Try.ntmps31
 go_upto_region 1 with fail
 generalize w.alloc (.cells #[.int .i64 m, .int .u8 a, .slice A rs.length k] 30) = V at *
 obtain ⟨p, hp⟩ : ∃ p, w.heap.size = p := ⟨_, rfl⟩
 rw [hp] at HT
 simp only [hp]
 have HPW := Lib.hid hp
 clear hp
 go_wp2_with fail
 go_loopw [5, 6] (fun s5 x wr => ∃ (i : Nat) (S : ByteArray), x = .int .i64 i ∧ i ≤ xs.length ∧ i ≤ 12 ∧ s5 = .string S ∧ S.size ≤ 12 ∧ TextsR rs i S ∧ Below V.heap.size V wr) (fun _ x _ => 12 - (intOf x).toNat)
 case atStart => exact ⟨0, ⟨#[]⟩, rfl, Nat.zero_le _, by omega, rfl, by decide, ⟨[], fun _ h => (by cases h), rfl, Nat.le_refl _⟩, Below.refl _ _⟩
 case round =>
  obtain ⟨i, S, rfl, hi1, hi12, rfl, hs, htx, hb⟩ := hrel
  have HW := Lib.hid hb
  have HT1 := Lib.hid (HT.out.keep hb HT.out.lt)
  have HR1 := Lib.hid (HR.out.up hb)
  have HX1 := Lib.hid (HXX.out.up hb)
  have HEND : Hid (SpelEnd rs w (.returned (.string S)) wr) := ⟨S, rfl, hs, htx.mono hi12, by rw [← HPW.out] at *; exact below_next HB.out hb⟩
  clear hb
  have t2 := HT1.out.cell 2
  simp only [List.getElem?_toArray, List.getElem?_cons_zero, List.getElem?_cons_succ] at t2
  have hr0 : (0 : Int) < (rs.length : Int) := by omega
  by_cases h1 : i < xs.length
  ·
   by_cases h2 : i < 12
   ·
    have hi0 : (0 : Int) ≤ (i : Int) := by omega
    have him : (i : Int) < (xs.length : Int) := by omega
    obtain ⟨xb, xo, rfl, hxb, hxc⟩ := HX1.out (by omega)
    have x0 := hxc i h1
    have hxv := HXS.out _ (List.getElem_mem h1)
    generalize xs[i]'h1 = yv at *
    obtain ⟨r, hr, hrl⟩ : ∃ r : Nat, yv % (rs.length : Int) = (r : Int) ∧ r < rs.length := ⟨(yv % (rs.length : Int)).toNat, by have := Int.emod_nonneg yv (b := (rs.length : Int)) (by omega); omega, by have := Int.emod_lt_of_pos yv (b := (rs.length : Int)) (by omega); have := Int.emod_nonneg yv (b := (rs.length : Int)) (by omega); omega⟩
    have hr2 : Int.tmod yv (rs.length : Int) = (r : Int) := by rw [Int.tmod_eq_emod_of_nonneg hxv.1]; exact hr
    obtain ⟨tb, o, CX, kx, rfl, htb, d0, _, _, _, _, _, _, hfit⟩ := rules_row HR1.out hrl
    have hps : (rs[r]'hrl).p.size < 2 ^ 47 := hfit.1
    have HTX := Lib.hid htx
    have HT2 := Lib.hid (htx.add hrl)
    clear htx
    generalize (rs[r]'hrl).p = pp at *
    clear hxc hr hfit
    have hps2 : pp.size < 140737488355328 := by omega
    clear hps
    go_upto_region 5 with fail
    go_region
    have hsum : Hid ((S ++ pp).size = S.size + pp.size) := ByteArray.size_append
    have hnd := Lib.hid HW.out.drew
    go_wp2_with fail
    ·
     rename_i hle
     exact ⟨⟨i + 1, S ++ pp, by go_num, h1, h2, rfl, by have := hsum.out; omega, HT2.out, hnd.out⟩, by simp [intOf]; omega⟩
    ·
     exact ⟨⟨i + 1, S, by go_num, h1, h2, rfl, hs, HTX.out.mono (Nat.le_succ _), hnd.out⟩, by simp [intOf]; omega⟩
   ·
    go_wp2_with fail
    go_ret
    exact HEND.out
  ·
   go_wp2_with fail
   go_ret
   exact HEND.out
end Go.Proofs.Ytpkdlljefkbmpaa

/-! Each text has its translation and its cost, purely. -/
namespace Go.Proofs.Ytpkdlljefkbmpaa
open Go.RowKit Go.Maps
theorem first_ex {P : Nat → Prop} (h : ∃ n, P n) : ∃ n, P n ∧ ∀ k, k < n → ¬ P k := by
 obtain ⟨n, hn⟩ := h
 induction n using Nat.strongRecOn with
 | ind n ih =>
  by_cases hk : ∃ k, k < n ∧ P k
  ·
   obtain ⟨k, h1, h2⟩ := hk
   exact ih k h1 h2
  ·
   exact ⟨n, hn, fun k h1 h2 => hk ⟨k, h1, h2⟩⟩
section
variable {ν : Type} {E : ν → Int → Option ν} {c : Int → Nat} {F : ν → Bool}
theorem bestE_at (hc : ∀ v k u, E v k = some u → 1 ≤ c k ∧ 0 ≤ k) : ∀ (M : Nat) (v : ν), (∃ ks, GdE E F v ks ∧ cstE c ks = M) → (∀ ls, GdE E F v ls → M ≤ cstE c ls) → ∃ ks, BestE E c F v ks := by
 intro M
 induction M using Nat.strongRecOn with
 | ind M ih =>
  intro v h hm
  obtain ⟨ks, h1, h2⟩ := h
  cases ks with
  | nil => exact ⟨[], bestE_nil (fun v k u e => (hc v k u e).1) h1 rfl⟩
  | cons k r =>
   obtain ⟨x0, ⟨y, s, hy, hs, hx⟩, hfirst⟩ := first_ex (P := fun x : Nat => ∃ y s, E v (x : Int) = some y ∧ GdE E F y s ∧ c (x : Int) + cstE c s = M) (by
    obtain ⟨u, g1, g2⟩ := gdE_cons.1 h1
    have g3 := (hc v k u g1).2
    refine ⟨k.toNat, u, r, ?_, g2, ?_⟩
    ·
     rw [Int.toNat_of_nonneg g3]; exact g1
    ·
     rw [Int.toNat_of_nonneg g3]; exact h2)
   have hp := (hc v x0 y hy).1
   obtain ⟨b, hb⟩ := ih (cstE c s) (by omega) y ⟨s, hs, rfl⟩ (fun ls hl => by
    have := hm ((x0 : Int) :: ls) (gdE_cons.2 ⟨y, hy, hl⟩)
    simp only [cstE] at this
    omega)
   have hbs : cstE c b = cstE c s := by
    have g1 := (hb.2 s hs).1
    have g2 := hm ((x0 : Int) :: b) (gdE_cons.2 ⟨y, hy, hb.1⟩)
    simp only [cstE] at g2
    omega
   refine ⟨(x0 : Int) :: b, gdE_cons.2 ⟨y, hy, hb.1⟩, fun ls hl => ?_⟩
   have hml := hm ls hl
   have he : cstE c ((x0 : Int) :: b) = M := by simp only [cstE]; omega
   refine ⟨by omega, fun e => ?_⟩
   rw [he] at e
   cases ls with
   | nil => simp only [cstE] at e; omega
   | cons x t =>
    obtain ⟨z, hz, ht⟩ := gdE_cons.1 hl
    have hx0 := (hc v x z hz).2
    simp only [cstE] at e
    have hle : (x0 : Int) ≤ x := by
     rcases Int.lt_or_le x x0 with g | g
     ·
      exact absurd ⟨z, t, by rw [Int.toNat_of_nonneg hx0]; exact hz, ht, by rw [Int.toNat_of_nonneg hx0]; omega⟩ (hfirst x.toNat (by omega))
     ·
      exact g
    unfold lessL
    by_cases e2 : x = (x0 : Int)
    ·
     rw [if_pos e2]
     subst e2
     rw [hy] at hz
     cases hz
     exact (hb.2 t ht).2 (by omega)
    ·
     rw [if_neg e2, decide_eq_false_iff_not]
     omega
theorem bestE_ex (hc : ∀ v k u, E v k = some u → 1 ≤ c k ∧ 0 ≤ k) {v : ν} (h : ∃ ks, GdE E F v ks) : ∃ ks, BestE E c F v ks := by
 obtain ⟨ks, h1, h2⟩ := minE_ex (c := c) h
 exact bestE_at hc _ v ⟨ks, h1, rfl⟩ h2
end
theorem top_ex {m a : Int} {rs : List Rule} (hG : GoodL m a rs) {l : List Nat} : ∃ g, TopP rs l g := by
 have hle : ∀ v, MetP rs l v → v.1 ≤ l.length := fun v h => met_all (P := fun v => v.1 ≤ l.length) (Nat.zero_le _) (fun v k u hv he => (edgP_ok hG hv he).1) h
 obtain ⟨n, ⟨g, mo, h1, h2⟩, h3⟩ := first_ex (P := fun n : Nat => ∃ g mo, MetP rs l (g, mo) ∧ l.length - g = n) ⟨_, 0, 0, met_start, rfl⟩
 refine ⟨g, ⟨mo, h1⟩, fun v hv => ?_⟩
 have g1 := hle _ h1
 have g2 := hle v hv
 rcases Nat.lt_or_ge g v.1 with h | h
 ·
  exact absurd ⟨v.1, v.2, hv, rfl⟩ (h3 (l.length - v.1) (by dsimp only at g1; omega))
 ·
  exact h
theorem wr_ex {m a : Int} {rs : List Rule} (hG : GoodL m a rs) (l : List Nat) : ∃ cs ks pl er, WrR a rs l cs ks pl er := by
 cases ht : isTextB l with
 | false => exact ⟨[], [], _, _, .inl ⟨ht, rfl, rfl, rfl, rfl⟩⟩
 | true =>
  by_cases h : ∃ ks, GdE (edgP rs l) (finP a l) (0, 0) ks
  ·
   obtain ⟨ks, hb⟩ := bestE_ex (c := cstR rs) (fun v k u e => ⟨(edgP_cst hG v k u e).1, by obtain ⟨j, rfl, _⟩ := edgP_some e; exact Int.natCast_nonneg j⟩) h
   exact ⟨_, ks, _, _, .inr ⟨ht, .inl ⟨hb, rfl, rfl, rfl⟩⟩⟩
  ·
   obtain ⟨g, hg⟩ := top_ex hG (l := l)
   exact ⟨[], [], g, _, .inr ⟨ht, .inr ⟨fun ls hl => h ⟨ls, hl⟩, rfl, rfl, hg, rfl⟩⟩⟩
theorem cost_ex {m a : Int} {rs : List Rule} (hG : GoodL m a rs) (l : List Nat) : ∃ v, CostR a rs l v := by
 obtain ⟨cs, ks, pl, er, h⟩ := wr_ex hG l
 by_cases e : er = 0
 ·
  exact ⟨_, cs, ks, pl, er, h, .inl ⟨e, rfl⟩⟩
 ·
  exact ⟨_, cs, ks, pl, er, h, .inr ⟨e, rfl⟩⟩
end Go.Proofs.Ytpkdlljefkbmpaa
