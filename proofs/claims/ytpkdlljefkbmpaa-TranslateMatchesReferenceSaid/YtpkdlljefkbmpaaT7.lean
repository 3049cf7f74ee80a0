/- Merged by program: Tr18 Tr19 -/
import Derived.Test.YtpkdlljefkbmpaaT6
import Derived.Test.YtpkdlljefkbmpaaQ23

/-! law06's sanity: the fixed examples. -/
namespace Go.Proofs.Ytpkdlljefkbmpaa
open Go.RowKit Go.Maps
def sanU : List Rule := [⟨⟨#[97]⟩, [1], 63, 63, 0, 0⟩, ⟨⟨#[98]⟩, [3], 63, 63, 0, 0⟩, ⟨⟨#[97, 98]⟩, [7], 63, 63, 0, 0⟩]
theorem sU_good : GoodL 1 1 sanU := by
 refine ⟨by decide +kernel, ?_, by decide +kernel⟩
 intro i j h1 h2 hij
 have : ∀ i < 3, ∀ j < 3, i < j → sanU[i]? ≠ sanU[j]? := by decide +kernel
 intro e
 exact this i h1 j h2 hij (by rw [List.getElem?_eq_getElem h1, List.getElem?_eq_getElem h2, e])
theorem sU_fits : ∀ x ∈ sanU, x.fits := by
 intro x hx
 simp only [sanU, List.mem_cons, List.not_mem_nil, or_false] at hx
 rcases hx with rfl | rfl | rfl <;> exact ⟨by decide, by decide, by decide, by decide, by decide, by decide, by decide⟩
theorem s6_w1 : WrR 3 san3 (bytes ⟨#[49, 32, 97]⟩) [60, 1, 0, 1] [1, 2, 3, 0] 3 0 := .inr ⟨by decide +kernel, .inl ⟨best_of s3_good (by decide +kernel), by decide +kernel, by decide +kernel, rfl⟩⟩
theorem s6_w2 : WrR 1 sanU (bytes ⟨#[97, 98, 97, 98]⟩) [7, 7] [2, 2] 4 0 := .inr ⟨by decide +kernel, .inl ⟨best_of sU_good (by decide +kernel), by decide +kernel, by decide +kernel, rfl⟩⟩
theorem s6_w3 : WrR 1 sanU (bytes ⟨#[98, 97]⟩) [3, 1] [1, 0] 2 0 := .inr ⟨by decide +kernel, .inl ⟨best_of sU_good (by decide +kernel), by decide +kernel, by decide +kernel, rfl⟩⟩
theorem s6_w4 : WrR 1 sanU (bytes ⟨#[]⟩) [] [] 0 0 := .inr ⟨by decide +kernel, .inl ⟨best_of sU_good (by decide +kernel), by decide +kernel, by decide +kernel, rfl⟩⟩
theorem s6_r1 : WrR 3 san3 (bytes ⟨#[49, 97]⟩) [] [] 1 61 := .inr ⟨by decide +kernel, .inr ⟨none_of (S := [(0, 0), (0, 1), (1, 1)]) (by decide +kernel) (by decide +kernel), rfl, rfl, top_of_closed (S := [(0, 0), (0, 1), (1, 1)]) (mo := 1) (ks := [1, 2]) (by decide +kernel) (by decide +kernel) (by decide +kernel), rfl⟩⟩
theorem s6_r2 : WrR 3 san3 (bytes ⟨#[97, 50]⟩) [] [] 1 61 := .inr ⟨by decide +kernel, .inr ⟨none_of (S := [(0, 0), (1, 0), (1, 1)]) (by decide +kernel) (by decide +kernel), rfl, rfl, top_of_closed (S := [(0, 0), (1, 0), (1, 1)]) (mo := 0) (ks := [0]) (by decide +kernel) (by decide +kernel) (by decide +kernel), rfl⟩⟩
theorem s6_r3 : WrR 3 san3 (bytes ⟨#[97, 10]⟩) [] [] 1 60 := .inl ⟨by decide +kernel, rfl, rfl, by decide +kernel, rfl⟩
theorem s6_c1 : CostR 3 san3 (bytes ⟨#[]⟩) 0 := ⟨[], [], 0, 0, .inr ⟨by decide +kernel, .inl ⟨best_of s3_good (by decide +kernel), by decide +kernel, by decide +kernel, rfl⟩⟩, .inl ⟨rfl, rfl⟩⟩
theorem s6_c2 : CostR 3 san3 (bytes ⟨#[49, 97]⟩) (-1) := ⟨[], [], 1, 61, s6_r1, .inr ⟨by decide, rfl⟩⟩
theorem s6_c3 : CostR 1 sanU (bytes ⟨#[97, 98, 98]⟩) 2 := ⟨[7, 3], [2, 1], 3, 0, .inr ⟨by decide +kernel, .inl ⟨best_of sU_good (by decide +kernel), by decide +kernel, by decide +kernel, rfl⟩⟩, .inl ⟨rfl, rfl⟩⟩
theorem s6_v : wrsB 1 sanU ⟨#[97, 98]⟩ [1, 3] [0, 1] = true ∧ wrsB 1 sanU ⟨#[97, 98, 97]⟩ [1, 3] [0, 1] = false ∧ wrsB 1 sanU ⟨#[97, 98]⟩ [7] [0, 1] = false := by decide +kernel
structure TT (w0 : World) (qt qu : Nat) (At Au : Option Addr) (w : World) : Prop where
 ht : Blk w qt 30 #[.int .i64 2, .int .u8 3, .slice At 4 4]
 hu : Blk w qu 30 #[.int .i64 1, .int .u8 1, .slice Au 3 3]
 rt : Rules w w.heap.size At san3
 ru : Rules w w.heap.size Au sanU
 hb : Below w0.heap.size w0 w
theorem TT.next {w0 w w' : World} {qt qu : Nat} {At Au : Option Addr} (h : TT w0 qt qu At Au w) (hb : Below w.heap.size w w') : TT w0 qt qu At Au w' :=
 ⟨h.ht.keep hb h.ht.lt, h.hu.keep hb h.hu.lt, h.rt.up hb, h.ru.up hb, below_next h.hb hb⟩
theorem TT.t {w0 w : World} {qt qu : Nat} {At Au : Option Addr} (h : TT w0 qt qu At Au w) : TbAt 2 3 At 4 4 san3 w := ⟨h.rt, s3_good, rfl, by decide, by decide, by decide, by decide⟩
theorem TT.u {w0 w : World} {qt qu : Nat} {At Au : Option Addr} (h : TT w0 qt qu At Au w) : TbAt 1 1 Au 3 3 sanU w := ⟨h.ru, sU_good, rfl, by decide, by decide, by decide, by decide⟩
theorem SeqN.lit6 (w : World) (ks : List Int) (t : TypeId) : SeqN (w.alloc (.cells (ks.map (Value.int .i64)).toArray t)) (w.alloc (.cells (ks.map (Value.int .i64)).toArray t)).heap.size (some ⟨w.heap.size, 0, none⟩) ks := fun _ => by
 refine ⟨w.heap.size, 0, rfl, by simp, fun j hj => ?_⟩
 have h := (Blk.new w (ks.map (Value.int .i64)).toArray t).cell (0 + j)
 rw [h]
 simp [hj]
theorem lit_below (w : World) (x y : Array Value) (t u : TypeId) : Below w.heap.size w ((w.alloc (.cells x t)).alloc (.cells y u)) := below_next (below_box _ _ _) (below_box _ _ _)
theorem lit_at (w : World) (cs ks : List Int) : WrAt ((w.alloc (.cells (cs.map (Value.int .u8)).toArray 96)).alloc (.cells (ks.map (Value.int .i64)).toArray 3)) (some ⟨w.heap.size, 0, none⟩) cs.length cs.length (some ⟨w.heap.size + 1, 0, none⟩) ks.length ks.length cs ks := by
 have h1 := Seq.lit w 96 cs
 have h2 := SeqN.lit6 (w.alloc (.cells (cs.map (Value.int .u8)).toArray 96)) ks 3
 have e : (w.alloc (.cells (cs.map (Value.int .u8)).toArray 96)).heap.size = w.heap.size + 1 := by simp
 rw [← e] at h1
 rw [e] at h2
 have hb := below_box (w.alloc (.cells (cs.map (Value.int .u8)).toArray 96)) (ks.map (Value.int .i64)).toArray 3
 exact ⟨(h1.keep hb).more hb.size, h2, rfl, rfl⟩
theorem cost6_any (m a : Int) (A : Option Addr) (n k : Nat) (rs : List Rule) (s : ByteArray) (v : Int) (w : World) (hT : TbAt m a A n k rs w) (hs : s.size < 2 ^ 36) (hv : CostR a rs (bytes s) v) :
  Calls Try.prog 35 #[.agg #[.int .i64 m, .int .u8 a, .slice A n k], .string s] w fun e w' => e = .returned (.int .i64 v) ∧ Below w.heap.size w w' :=
 (cost_any m a A n k rs s w hT.hn hT.hr hT.hg hT.hx hT.hm hT.ha hT.hk hs).mono fun _ _ ⟨_, e, h, hb⟩ => ⟨by rw [e, costR_one h hv], hb⟩
theorem writes6_any (m a : Int) (A : Option Addr) (n k : Nat) (rs : List Rule) (s : ByteArray) (CA PA : Option Addr) (cn ck pn pk : Nat) (cs ks : List Int) (w : World) (hT : TbAt m a A n k rs w) (hW : WrAt w CA cn ck PA pn pk cs ks) (hpn : pn ≤ 1000000) :
  Calls Try.prog 68 #[.agg #[.int .i64 m, .int .u8 a, .slice A n k], .agg #[.slice CA cn ck, .slice PA pn pk], .string s] w fun e w' => e = .returned (.bool (wrsB a rs s cs ks)) ∧ Below w.heap.size w w' :=
 writes_any m a A n k rs s CA PA cn ck pn pk cs ks w hT.hn hT.hr hT.hg hT.hx hT.hm hT.ha hW.cl hW.pl hW.c hW.p hpn
set_option maxRecDepth 10000 in
set_option maxHeartbeats 4000000 in
theorem sanity6_any (w : World) :
  Calls Try.prog 29 #[] w fun e w' => e = .returned (.bool true) ∧ Below w.heap.size w w' := by
 go_enter Try.func29, Try.ntmps29
 go_wp2_with fail
 refine (rule6_any ⟨#[97]⟩ 1 63 0 0 (by decide) _).mono ?_
 rintro e w1 ⟨A1, k1, rfl, h1, hb1⟩
 go_wp2_with fail
 refine (rule6_any ⟨#[]⟩ 60 8 0 1 (by decide) _).mono ?_
 rintro e w2 ⟨A2, k2, rfl, h2, hb2⟩
 go_wp2_with fail
 refine (rule6_any ⟨#[49]⟩ 1 63 1 1 (by decide) _).mono ?_
 rintro e w3 ⟨A3, k3, rfl, h3, hb3⟩
 go_wp2_with fail
 refine (rule6_any ⟨#[32]⟩ 0 63 1 0 (by decide) _).mono ?_
 rintro e w4 ⟨A4, k4, rfl, h4, hb4⟩
 have g1 := (((h1.below hb2).below hb3).below hb4)
 have g2 := (((h2.less hb1.size).below hb3).below hb4)
 have g3 := ((h3.less (Nat.le_trans hb1.size hb2.size)).below hb4)
 have g4 := h4.less (Nat.le_trans (Nat.le_trans hb1.size hb2.size) hb3.size)
 have gb := below_next (below_next (below_next hb1 hb2) hb3) hb4
 have HM := Lib.hid (Made.lit (rs := san3) ((((RulesW.nil.snoc (k := k1) g1 (s3_fits _ (by decide))).snoc (k := k2) g2 (s3_fits _ (by decide))).snoc (k := k3) g3 (s3_fits _ (by decide))).snoc (k := k4) g4 (s3_fits _ (by decide))) gb.size (by decide))
 have GB := Lib.hid gb
 clear g1 g2 g3 g4 gb h1 h2 h3 h4 hb1 hb2 hb3 hb4
 go_upto_region 2 with fail
 have HS : Hid (Blk ((w4.alloc (.cells #[.string ⟨#[97]⟩, .slice A1 1 k1, .int .u8 63, .int .u8 63, .int .i64 0, .int .i64 0, .string ⟨#[]⟩, .slice A2 1 k2, .int .u8 63, .int .u8 8, .int .i64 0, .int .i64 1, .string ⟨#[49]⟩, .slice A3 1 k3, .int .u8 63, .int .u8 63, .int .i64 1, .int .i64 1, .string ⟨#[32]⟩, .slice A4 1 k4, .int .u8 63, .int .u8 63, .int .i64 1, .int .i64 0] 99)).alloc (.cells #[.int .i64 2, .int .u8 3, .slice (some ⟨w4.heap.size, 0, none⟩) 4 4] 30)) (w4.heap.size + 1) 30 #[.int .i64 2, .int .u8 3, .slice (some ⟨w4.heap.size, 0, none⟩) 4 4] ∧ Rules ((w4.alloc (.cells #[.string ⟨#[97]⟩, .slice A1 1 k1, .int .u8 63, .int .u8 63, .int .i64 0, .int .i64 0, .string ⟨#[]⟩, .slice A2 1 k2, .int .u8 63, .int .u8 8, .int .i64 0, .int .i64 1, .string ⟨#[49]⟩, .slice A3 1 k3, .int .u8 63, .int .u8 63, .int .i64 1, .int .i64 1, .string ⟨#[32]⟩, .slice A4 1 k4, .int .u8 63, .int .u8 63, .int .i64 1, .int .i64 0] 99)).alloc (.cells #[.int .i64 2, .int .u8 3, .slice (some ⟨w4.heap.size, 0, none⟩) 4 4] 30)) ((w4.alloc (.cells #[.string ⟨#[97]⟩, .slice A1 1 k1, .int .u8 63, .int .u8 63, .int .i64 0, .int .i64 0, .string ⟨#[]⟩, .slice A2 1 k2, .int .u8 63, .int .u8 8, .int .i64 0, .int .i64 1, .string ⟨#[49]⟩, .slice A3 1 k3, .int .u8 63, .int .u8 63, .int .i64 1, .int .i64 1, .string ⟨#[32]⟩, .slice A4 1 k4, .int .u8 63, .int .u8 63, .int .i64 1, .int .i64 0] 99)).alloc (.cells #[.int .i64 2, .int .u8 3, .slice (some ⟨w4.heap.size, 0, none⟩) 4 4] 30)).heap.size (some ⟨w4.heap.size, 0, none⟩) san3 ∧ Below w.heap.size w ((w4.alloc (.cells #[.string ⟨#[97]⟩, .slice A1 1 k1, .int .u8 63, .int .u8 63, .int .i64 0, .int .i64 0, .string ⟨#[]⟩, .slice A2 1 k2, .int .u8 63, .int .u8 8, .int .i64 0, .int .i64 1, .string ⟨#[49]⟩, .slice A3 1 k3, .int .u8 63, .int .u8 63, .int .i64 1, .int .i64 1, .string ⟨#[32]⟩, .slice A4 1 k4, .int .u8 63, .int .u8 63, .int .i64 1, .int .i64 0] 99)).alloc (.cells #[.int .i64 2, .int .u8 3, .slice (some ⟨w4.heap.size, 0, none⟩) 4 4] 30))) := by
  have hs := GB.out.size
  have hm : Made (w4.alloc (.cells #[.string ⟨#[97]⟩, .slice A1 1 k1, .int .u8 63, .int .u8 63, .int .i64 0, .int .i64 0, .string ⟨#[]⟩, .slice A2 1 k2, .int .u8 63, .int .u8 8, .int .i64 0, .int .i64 1, .string ⟨#[49]⟩, .slice A3 1 k3, .int .u8 63, .int .u8 63, .int .i64 1, .int .i64 1, .string ⟨#[32]⟩, .slice A4 1 k4, .int .u8 63, .int .u8 63, .int .i64 1, .int .i64 0] 99)) w.heap.size (.slice (some ⟨w4.heap.size, 0, none⟩) 4 4) san3 := HM.out
  refine ⟨?_, hm.rs6.up (below_box _ _ _), (GB.out.alloc hs _).alloc (by simp; omega) _⟩
  have := Blk.new (w4.alloc (.cells #[.string ⟨#[97]⟩, .slice A1 1 k1, .int .u8 63, .int .u8 63, .int .i64 0, .int .i64 0, .string ⟨#[]⟩, .slice A2 1 k2, .int .u8 63, .int .u8 8, .int .i64 0, .int .i64 1, .string ⟨#[49]⟩, .slice A3 1 k3, .int .u8 63, .int .u8 63, .int .i64 1, .int .i64 1, .string ⟨#[32]⟩, .slice A4 1 k4, .int .u8 63, .int .u8 63, .int .i64 1, .int .i64 0] 99)) #[.int .i64 2, .int .u8 3, .slice (some ⟨w4.heap.size, 0, none⟩) 4 4] 30
  simpa only [World.size_alloc] using this
 clear HM GB
 generalize (w4.alloc (.cells #[.string ⟨#[97]⟩, .slice A1 1 k1, .int .u8 63, .int .u8 63, .int .i64 0, .int .i64 0, .string ⟨#[]⟩, .slice A2 1 k2, .int .u8 63, .int .u8 8, .int .i64 0, .int .i64 1, .string ⟨#[49]⟩, .slice A3 1 k3, .int .u8 63, .int .u8 63, .int .i64 1, .int .i64 1, .string ⟨#[32]⟩, .slice A4 1 k4, .int .u8 63, .int .u8 63, .int .i64 1, .int .i64 0] 99)).alloc (.cells #[.int .i64 2, .int .u8 3, .slice (some ⟨w4.heap.size, 0, none⟩) 4 4] 30) = V at *
 generalize w4.heap.size + 1 = qt at *
 generalize (some (⟨w4.heap.size, 0, none⟩ : Addr)) = At at *
 generalize (Value.agg #[.string ⟨#[97]⟩, .slice A1 1 k1, .int .u8 63, .int .u8 63, .int .i64 0, .int .i64 0]) = v8 at *
 generalize (Value.agg #[.string ⟨#[]⟩, .slice A2 1 k2, .int .u8 63, .int .u8 8, .int .i64 0, .int .i64 1]) = v10 at *
 generalize (Value.agg #[.string ⟨#[49]⟩, .slice A3 1 k3, .int .u8 63, .int .u8 63, .int .i64 1, .int .i64 1]) = v12 at *
 generalize (Value.agg #[.string ⟨#[32]⟩, .slice A4 1 k4, .int .u8 63, .int .u8 63, .int .i64 1, .int .i64 0]) = v14 at *
 clear A1 A2 A3 A4 k1 k2 k3 k4 w1 w2 w3 w4
 have hbz := below_box V #[.int .i64 63, .int .i64 0, .int .i64 0] 120
 have HZ : Hid (Blk (V.alloc (.cells #[.int .i64 63, .int .i64 0, .int .i64 0] 120)) V.heap.size 120 #[.int .i64 63, .int .i64 0, .int .i64 0]) := Blk.new _ _ _
 have HT : Hid (Blk (V.alloc (.cells #[.int .i64 63, .int .i64 0, .int .i64 0] 120)) qt 30 #[.int .i64 2, .int .u8 3, .slice At 4 4]) := HS.out.1.keep hbz HS.out.1.lt
 have HR := Lib.hid (HS.out.2.1.up hbz)
 have HBW := Lib.hid (below_next HS.out.2.2 hbz)
 clear HS hbz
 go_upto_region 3 with fail
 generalize V.alloc (.cells #[.int .i64 63, .int .i64 0, .int .i64 0] 120) = W at *
 generalize V.heap.size = qz at *
 have z0 := HZ.out.cell 0
 have z1 := HZ.out.cell 1
 have z2 := HZ.out.cell 2
 simp only [List.getElem?_toArray, List.getElem?_cons_zero, List.getElem?_cons_succ] at z0 z1 z2
 have HZL := Lib.hid HZ.out.lt
 refine wp_region_head 9 0 (by kernel_rfl) (fun y => (.bool false) :: (.pointer (some ⟨qt, 0, none⟩)) :: (.pointer (some ⟨qz, 0, none⟩)) :: y 8 :: undef :: undef :: undef :: (.agg #[.int .i64 63, .int .i64 0, .int .i64 0]) :: v8 :: (.agg #[.int .i64 8, .int .i64 0, .int .i64 1]) :: v10 :: (.agg #[.int .i64 63, .int .i64 1, .int .i64 1]) :: v12 :: (.agg #[.int .i64 63, .int .i64 1, .int .i64 0]) :: v14 :: (.slice At 4 4) :: (.agg #[.int .i64 2, .int .u8 3, .slice At 4 4]) :: (.agg #[.int .i64 63, .int .i64 0, .int .i64 0]) :: y 0 :: y 1 :: y 2 :: y 3 :: y 4 :: y 5 :: y 6 :: y 7 :: undef :: undef :: undef :: undef :: undef :: undef :: undef :: undef :: undef :: undef :: undef :: undef :: undef :: undef :: undef :: undef :: undef :: undef :: undef :: undef :: undef :: undef :: undef :: undef :: undef :: undef :: undef :: undef :: undef :: undef :: undef :: undef :: undef :: undef :: undef :: undef :: undef :: undef :: undef :: undef :: undef :: undef :: undef :: undef :: undef :: undef :: undef :: undef :: undef :: undef :: undef :: undef :: undef :: undef :: undef :: undef :: undef :: undef :: undef :: undef :: undef :: undef :: undef :: undef :: undef :: undef :: undef :: undef :: undef :: undef :: undef :: undef :: undef :: undef :: undef :: undef :: undef :: undef :: [])
  (fun _ w' => Below W.heap.size W w') (phiP [pv (.agg #[.int .i64 63, .int .i64 0, .int .i64 0]), pq (fun (z : Option Addr × Nat) => .agg #[.string ⟨#[97]⟩, .slice z.1 1 z.2, .int .u8 63, .int .u8 63, .int .i64 0, .int .i64 0]) (fun (z : Option Addr × Nat) w => SeqC w W.heap.size z.1 [1] z.2), pv (.agg #[.int .i64 63, .int .i64 0, .int .i64 0]), pq (fun (z : Option Addr × Nat) => .agg #[.string ⟨#[98]⟩, .slice z.1 1 z.2, .int .u8 63, .int .u8 63, .int .i64 0, .int .i64 0]) (fun (z : Option Addr × Nat) w => SeqC w W.heap.size z.1 [3] z.2), pv (.agg #[.int .i64 63, .int .i64 0, .int .i64 0]), pq (fun (z : Option Addr × Nat) => .agg #[.string ⟨#[97, 98]⟩, .slice z.1 1 z.2, .int .u8 63, .int .u8 63, .int .i64 0, .int .i64 0]) (fun (z : Option Addr × Nat) w => SeqC w W.heap.size z.1 [7] z.2), pq (fun (b : Nat) => .slice (some ⟨b, 0, none⟩) 3 3) (fun (b : Nat) w => W.heap.size ≤ b ∧ Made w W.heap.size (.slice (some ⟨b, 0, none⟩) 3 3) sanU), pq (fun (b : Nat) => .agg #[.int .i64 1, .int .u8 1, .slice (some ⟨b, 0, none⟩) 3 3]) (fun (b : Nat) w => W.heap.size ≤ b ∧ Made w W.heap.size (.slice (some ⟨b, 0, none⟩) 3 3) sanU), pq (fun (g : Nat) => .pointer (some ⟨g, 0, none⟩)) (fun (g : Nat) w => W.heap.size ≤ g ∧ Blk w g 30 #[.int .i64 0, .int .u8 0, .slice none 0 0])]) (fun i => match i with | 0 => undef | 1 => undef | 2 => undef | 3 => undef | 4 => undef | 5 => undef | 6 => undef | 7 => undef | 8 => undef | _ => undef)
  (by kernel_rfl) (by kernel_rfl) (by kernel_rfl) (by kernel_rfl) (fun i v wa wb h hb => phiP_keep (stay_cons (pv_st) (stay_cons (pq_st (fun _ _ _ h hb => h.below hb)) (stay_cons (pv_st) (stay_cons (pq_st (fun _ _ _ h hb => h.below hb)) (stay_cons (pv_st) (stay_cons (pq_st (fun _ _ _ h hb => h.below hb)) (stay_cons (pq_st (fun _ _ _ h hb => ⟨h.1, h.2.keep hb⟩)) (stay_cons (pq_st (fun _ _ _ h hb => ⟨h.1, h.2.keep hb⟩)) (stay_cons (pq_st (fun _ _ _ h hb => ⟨h.1, h.2.keep hb h.2.lt⟩)) stay_nil))))))))) h hb) (Below.refl _ _).drew [0, 1, 2, 3, 4, 5, 6, 7, 8] (by kernel_rfl) ?_ ?_
 ·
  refine allCons ?_ (allCons ?_ (allCons ?_ (allCons ?_ (allCons ?_ (allCons ?_ (allCons ?_ (allCons ?_ (allCons ?_ (allNil)))))))))
  all_goals intro y w10 K hS hd hK
  ·
   have q0 := (hS.cell (p := ⟨qz, 0, none⟩) HZL.out).trans z0
   have q1 := (hS.cell (p := ⟨qz, 1, none⟩) HZL.out).trans z1
   have q2 := (hS.cell (p := ⟨qz, 2, none⟩) HZL.out).trans z2
   refine wpOp_step rfl (fun K2 hK2 => ?_)
   go_simp
   exact hK2 _ _ (hK _ _ hS rfl (Below.refl _ _))
  ·
   have e0 : y 0 = _ := hd 0 rfl
   obtain ⟨y, rfl⟩ := upd_at (y := y) (i := 0) e0
   dsimp [upd]
   refine wpOp_step rfl (fun K2 hK2 => ?_)
   go_simp
   refine (rule6_any ⟨#[97]⟩ 1 63 0 0 (by decide) w10).mono ?_
   rintro e' w2 ⟨A', k', rfl, hs, hb⟩
   exact hK2 _ _ (hK _ _ (below_next hS hb) ⟨(A', k'), rfl, hs.less hS.size⟩ hb)
  ·
   have q0 := (hS.cell (p := ⟨qz, 0, none⟩) HZL.out).trans z0
   have q1 := (hS.cell (p := ⟨qz, 1, none⟩) HZL.out).trans z1
   have q2 := (hS.cell (p := ⟨qz, 2, none⟩) HZL.out).trans z2
   refine wpOp_step rfl (fun K2 hK2 => ?_)
   go_simp
   exact hK2 _ _ (hK _ _ hS rfl (Below.refl _ _))
  ·
   have e2 : y 2 = _ := hd 2 rfl
   obtain ⟨y, rfl⟩ := upd_at (y := y) (i := 2) e2
   dsimp [upd]
   refine wpOp_step rfl (fun K2 hK2 => ?_)
   go_simp
   refine (rule6_any ⟨#[98]⟩ 3 63 0 0 (by decide) w10).mono ?_
   rintro e' w2 ⟨A', k', rfl, hs, hb⟩
   exact hK2 _ _ (hK _ _ (below_next hS hb) ⟨(A', k'), rfl, hs.less hS.size⟩ hb)
  ·
   have q0 := (hS.cell (p := ⟨qz, 0, none⟩) HZL.out).trans z0
   have q1 := (hS.cell (p := ⟨qz, 1, none⟩) HZL.out).trans z1
   have q2 := (hS.cell (p := ⟨qz, 2, none⟩) HZL.out).trans z2
   refine wpOp_step rfl (fun K2 hK2 => ?_)
   go_simp
   exact hK2 _ _ (hK _ _ hS rfl (Below.refl _ _))
  ·
   have e4 : y 4 = _ := hd 4 rfl
   obtain ⟨y, rfl⟩ := upd_at (y := y) (i := 4) e4
   dsimp [upd]
   refine wpOp_step rfl (fun K2 hK2 => ?_)
   go_simp
   refine (rule6_any ⟨#[97, 98]⟩ 7 63 0 0 (by decide) w10).mono ?_
   rintro e' w2 ⟨A', k', rfl, hs, hb⟩
   exact hK2 _ _ (hK _ _ (below_next hS hb) ⟨(A', k'), rfl, hs.less hS.size⟩ hb)
  ·
   obtain ⟨⟨A1, k1⟩, e1, s1⟩ := hd 1 rfl
   obtain ⟨⟨A2, k2⟩, e3, s2⟩ := hd 3 rfl
   obtain ⟨⟨A3, k3⟩, e5, s3⟩ := hd 5 rfl
   obtain ⟨y, rfl⟩ := upd_at (y := y) (i := 1) e1
   obtain ⟨y, rfl⟩ := upd_at (y := y) (i := 3) e3
   obtain ⟨y, rfl⟩ := upd_at (y := y) (i := 5) e5
   dsimp [upd]
   have hm := Made.lit (rs := sanU) (((RulesW.nil.snoc (k := k1) s1 (sU_fits _ (by decide))).snoc (k := k2) s2 (sU_fits _ (by decide))).snoc (k := k3) s3 (sU_fits _ (by decide))) hS.size (by decide)
   have HM := Lib.hid hm
   clear hm s1 s2 s3
   refine wpOp_step rfl (fun K2 hK2 => ?_)
   go_simp
   exact hK2 _ _ (hK _ _ (below_next hS (below_box _ _ _)) ⟨w10.heap.size, rfl, hS.size, HM.out⟩ (below_box _ _ _))
  ·
   obtain ⟨b, e6, hb1, hm⟩ := hd 6 rfl
   obtain ⟨y, rfl⟩ := upd_at (y := y) (i := 6) e6
   dsimp [upd]
   refine wpOp_step rfl (fun K2 hK2 => ?_)
   go_simp
   exact hK2 _ _ (hK _ _ hS ⟨b, rfl, hb1, hm⟩ (Below.refl _ _))
  ·
   refine wpOp_step rfl (fun K2 hK2 => ?_)
   go_simp
   exact hK2 _ _ (hK _ _ (below_next hS (below_box _ _ _)) ⟨w10.heap.size, rfl, hS.size, Blk.new _ _ _⟩ (below_box _ _ _))
 ·
  intro y w10 f hS hd
  obtain ⟨b, e7, hb1, hm⟩ := hd 7 (by decide)
  obtain ⟨g, e8, hg, hbl⟩ := hd 8 (by decide)
  clear hd
  obtain ⟨y, rfl⟩ := upd_at (y := y) (i := 7) e7
  obtain ⟨y, rfl⟩ := upd_at (y := y) (i := 8) e8
  dsimp [upd]
  have c0 := hbl.cell 0
  have c1 := hbl.cell 1
  have c2 := hbl.cell 2
  have f0 := hbl.free 0
  have f1 := hbl.free 1
  have f2 := hbl.free 2
  simp only [List.getElem?_toArray, List.getElem?_cons_zero, List.getElem?_cons_succ] at c0 c1 c2
  refine wpAny_one (i := 9) (by kernel_rfl) ?_
  refine wpOp_step rfl (fun K2 hK2 => ?_)
  go_simp
  refine hK2 _ _ ?_
  clear hK2 K2 e7 e8
  refine wpAny_done (by kernel_rfl) ?_ _
  have hqt := HT.out.lt
  have HTT0 : Hid (TT w qt g At (some ⟨b, 0, none⟩) (((w10.setCell ⟨g, 0, none⟩ (.int .i64 1)).setCell ⟨g, 1, none⟩ (.int .u8 1)).setCell ⟨g, 2, none⟩ (.slice (some ⟨b, 0, none⟩) 3 3))) := by
   have hB : Below W.heap.size W (((w10.setCell ⟨g, 0, none⟩ (.int .i64 1)).setCell ⟨g, 1, none⟩ (.int .u8 1)).setCell ⟨g, 2, none⟩ (.slice (some ⟨b, 0, none⟩) 3 3)) := ((hS.setCell hg _).setCell hg _).setCell hg _
   have hb1 := hbl.set 0 (.int .i64 1)
   have hb2 := hb1.set 1 (.int .u8 1)
   exact ⟨HT.out.keep hB hqt, hb2.set 2 _, HR.out.up hB, (((hm.set hbl ⟨by decide, by decide⟩ _).set hb1 ⟨by decide, by decide⟩ _).set hb2 ⟨by decide, by decide⟩ _).rs6, below_next HBW.out hB⟩
  clear hS hm hbl hg hqt c0 c1 c2 f0 f1 f2 z0 z1 z2 HT HR HBW HZ HZL hb1
  generalize ((w10.setCell ⟨g, 0, none⟩ (.int .i64 1)).setCell ⟨g, 1, none⟩ (.int .u8 1)).setCell ⟨g, 2, none⟩ (.slice (some ⟨b, 0, none⟩) 3 3) = V0 at *
  generalize (some (⟨b, 0, none⟩ : Addr)) = Au at *
  have t0 := HTT0.out.ht.cell 0
  have t1 := HTT0.out.ht.cell 1
  have t2 := HTT0.out.ht.cell 2
  have u0 := HTT0.out.hu.cell 0
  have u1 := HTT0.out.hu.cell 1
  have u2 := HTT0.out.hu.cell 2
  simp only [List.getElem?_toArray, List.getElem?_cons_zero, List.getElem?_cons_succ] at t0 t1 t2 u0 u1 u2
  go_wp2_with fail
  refine (writesL_any 2 3 At 4 4 san3 ⟨#[49, 32, 97]⟩ (some ⟨V0.heap.size, 0, none⟩) (some ⟨V0.heap.size + 1, 0, none⟩) 4 4 4 4 [60, 1, 0, 1] [1, 2, 3, 0] ((V0.alloc (.cells #[.int .u8 60, .int .u8 1, .int .u8 0, .int .u8 1] 96)).alloc (.cells #[.int .i64 1, .int .i64 2, .int .i64 3, .int .i64 0] 3)) (HTT0.out.next (lit_below V0 _ _ _ _)).t (by decide) (lit_at V0 [60, 1, 0, 1] [1, 2, 3, 0]) s6_w1 (by decide) (by decide)).mono ?_
  rintro e V1 ⟨rfl, hb⟩
  have HTT1 := Lib.hid (HTT0.out.next (below_next (lit_below V0 _ _ _ _) hb))
  clear hb HTT0 t0 t1 t2 u0 u1 u2
  have t0 := HTT1.out.ht.cell 0
  have t1 := HTT1.out.ht.cell 1
  have t2 := HTT1.out.ht.cell 2
  have u0 := HTT1.out.hu.cell 0
  have u1 := HTT1.out.hu.cell 1
  have u2 := HTT1.out.hu.cell 2
  simp only [List.getElem?_toArray, List.getElem?_cons_zero, List.getElem?_cons_succ] at t0 t1 t2 u0 u1 u2
  go_wp2_with fail
  refine (writesL_any 1 1 Au 3 3 sanU ⟨#[97, 98, 97, 98]⟩ (some ⟨V1.heap.size, 0, none⟩) (some ⟨V1.heap.size + 1, 0, none⟩) 2 2 2 2 [7, 7] [2, 2] ((V1.alloc (.cells #[.int .u8 7, .int .u8 7] 96)).alloc (.cells #[.int .i64 2, .int .i64 2] 3)) (HTT1.out.next (lit_below V1 _ _ _ _)).u (by decide) (lit_at V1 [7, 7] [2, 2]) s6_w2 (by decide) (by decide)).mono ?_
  rintro e V2 ⟨rfl, hb⟩
  have HTT2 := Lib.hid (HTT1.out.next (below_next (lit_below V1 _ _ _ _) hb))
  clear hb HTT1 t0 t1 t2 u0 u1 u2
  have t0 := HTT2.out.ht.cell 0
  have t1 := HTT2.out.ht.cell 1
  have t2 := HTT2.out.ht.cell 2
  have u0 := HTT2.out.hu.cell 0
  have u1 := HTT2.out.hu.cell 1
  have u2 := HTT2.out.hu.cell 2
  simp only [List.getElem?_toArray, List.getElem?_cons_zero, List.getElem?_cons_succ] at t0 t1 t2 u0 u1 u2
  go_wp2_with fail
  refine (writesL_any 1 1 Au 3 3 sanU ⟨#[98, 97]⟩ (some ⟨V2.heap.size, 0, none⟩) (some ⟨V2.heap.size + 1, 0, none⟩) 2 2 2 2 [3, 1] [1, 0] ((V2.alloc (.cells #[.int .u8 3, .int .u8 1] 96)).alloc (.cells #[.int .i64 1, .int .i64 0] 3)) (HTT2.out.next (lit_below V2 _ _ _ _)).u (by decide) (lit_at V2 [3, 1] [1, 0]) s6_w3 (by decide) (by decide)).mono ?_
  rintro e V3 ⟨rfl, hb⟩
  have HTT3 := Lib.hid (HTT2.out.next (below_next (lit_below V2 _ _ _ _) hb))
  clear hb HTT2 t0 t1 t2 u0 u1 u2
  have t0 := HTT3.out.ht.cell 0
  have t1 := HTT3.out.ht.cell 1
  have t2 := HTT3.out.ht.cell 2
  have u0 := HTT3.out.hu.cell 0
  have u1 := HTT3.out.hu.cell 1
  have u2 := HTT3.out.hu.cell 2
  simp only [List.getElem?_toArray, List.getElem?_cons_zero, List.getElem?_cons_succ] at t0 t1 t2 u0 u1 u2
  go_wp2_with fail
  refine (writesL_any 1 1 Au 3 3 sanU ⟨#[]⟩ none none 0 0 0 0 [] [] V3 HTT3.out.u (by decide) ⟨Seq.nil, fun h => absurd h (by simp), rfl, rfl⟩ s6_w4 (by decide) (by decide)).mono ?_
  rintro e V4 ⟨rfl, hb⟩
  have HTT4 := Lib.hid (HTT3.out.next (hb))
  clear hb HTT3 t0 t1 t2 u0 u1 u2
  have t0 := HTT4.out.ht.cell 0
  have t1 := HTT4.out.ht.cell 1
  have t2 := HTT4.out.ht.cell 2
  have u0 := HTT4.out.hu.cell 0
  have u1 := HTT4.out.hu.cell 1
  have u2 := HTT4.out.hu.cell 2
  simp only [List.getElem?_toArray, List.getElem?_cons_zero, List.getElem?_cons_succ] at t0 t1 t2 u0 u1 u2
  go_wp2_with fail
  refine (refuses_any 2 3 At 4 4 san3 ⟨#[49, 97]⟩ 1 61 V4 HTT4.out.t (by decide) s6_r1).mono ?_
  rintro e V5 ⟨rfl, hb⟩
  have HTT5 := Lib.hid (HTT4.out.next (hb))
  clear hb HTT4 t0 t1 t2 u0 u1 u2
  have t0 := HTT5.out.ht.cell 0
  have t1 := HTT5.out.ht.cell 1
  have t2 := HTT5.out.ht.cell 2
  have u0 := HTT5.out.hu.cell 0
  have u1 := HTT5.out.hu.cell 1
  have u2 := HTT5.out.hu.cell 2
  simp only [List.getElem?_toArray, List.getElem?_cons_zero, List.getElem?_cons_succ] at t0 t1 t2 u0 u1 u2
  go_wp2_with fail
  refine (refuses_any 2 3 At 4 4 san3 ⟨#[97, 50]⟩ 1 61 V5 HTT5.out.t (by decide) s6_r2).mono ?_
  rintro e V6 ⟨rfl, hb⟩
  have HTT6 := Lib.hid (HTT5.out.next (hb))
  clear hb HTT5 t0 t1 t2 u0 u1 u2
  have t0 := HTT6.out.ht.cell 0
  have t1 := HTT6.out.ht.cell 1
  have t2 := HTT6.out.ht.cell 2
  have u0 := HTT6.out.hu.cell 0
  have u1 := HTT6.out.hu.cell 1
  have u2 := HTT6.out.hu.cell 2
  simp only [List.getElem?_toArray, List.getElem?_cons_zero, List.getElem?_cons_succ] at t0 t1 t2 u0 u1 u2
  go_wp2_with fail
  refine (refuses_any 2 3 At 4 4 san3 ⟨#[97, 10]⟩ 1 60 V6 HTT6.out.t (by decide) s6_r3).mono ?_
  rintro e V7 ⟨rfl, hb⟩
  have HTT7 := Lib.hid (HTT6.out.next (hb))
  clear hb HTT6 t0 t1 t2 u0 u1 u2
  have t0 := HTT7.out.ht.cell 0
  have t1 := HTT7.out.ht.cell 1
  have t2 := HTT7.out.ht.cell 2
  have u0 := HTT7.out.hu.cell 0
  have u1 := HTT7.out.hu.cell 1
  have u2 := HTT7.out.hu.cell 2
  simp only [List.getElem?_toArray, List.getElem?_cons_zero, List.getElem?_cons_succ] at t0 t1 t2 u0 u1 u2
  go_wp2_with fail
  refine (cost6_any 2 3 At 4 4 san3 ⟨#[]⟩ 0 V7 HTT7.out.t (by decide) s6_c1).mono ?_
  rintro e V8 ⟨rfl, hb⟩
  have HTT8 := Lib.hid (HTT7.out.next (hb))
  clear hb HTT7 t0 t1 t2 u0 u1 u2
  have t0 := HTT8.out.ht.cell 0
  have t1 := HTT8.out.ht.cell 1
  have t2 := HTT8.out.ht.cell 2
  have u0 := HTT8.out.hu.cell 0
  have u1 := HTT8.out.hu.cell 1
  have u2 := HTT8.out.hu.cell 2
  simp only [List.getElem?_toArray, List.getElem?_cons_zero, List.getElem?_cons_succ] at t0 t1 t2 u0 u1 u2
  go_wp2_with fail
  refine (cost6_any 2 3 At 4 4 san3 ⟨#[49, 97]⟩ (-1) V8 HTT8.out.t (by decide) s6_c2).mono ?_
  rintro e V9 ⟨rfl, hb⟩
  have HTT9 := Lib.hid (HTT8.out.next (hb))
  clear hb HTT8 t0 t1 t2 u0 u1 u2
  have t0 := HTT9.out.ht.cell 0
  have t1 := HTT9.out.ht.cell 1
  have t2 := HTT9.out.ht.cell 2
  have u0 := HTT9.out.hu.cell 0
  have u1 := HTT9.out.hu.cell 1
  have u2 := HTT9.out.hu.cell 2
  simp only [List.getElem?_toArray, List.getElem?_cons_zero, List.getElem?_cons_succ] at t0 t1 t2 u0 u1 u2
  go_wp2_with fail
  refine (cost6_any 1 1 Au 3 3 sanU ⟨#[97, 98, 98]⟩ 2 V9 HTT9.out.u (by decide) s6_c3).mono ?_
  rintro e V10 ⟨rfl, hb⟩
  have HTT10 := Lib.hid (HTT9.out.next (hb))
  clear hb HTT9 t0 t1 t2 u0 u1 u2
  have t0 := HTT10.out.ht.cell 0
  have t1 := HTT10.out.ht.cell 1
  have t2 := HTT10.out.ht.cell 2
  have u0 := HTT10.out.hu.cell 0
  have u1 := HTT10.out.hu.cell 1
  have u2 := HTT10.out.hu.cell 2
  simp only [List.getElem?_toArray, List.getElem?_cons_zero, List.getElem?_cons_succ] at t0 t1 t2 u0 u1 u2
  have HWB : Hid (Below V10.heap.size V10 (((V10.alloc (.cells #[.int .u8 1, .int .u8 3] 96)).alloc (.cells #[.int .i64 0, .int .i64 1] 3)).alloc (.cells #[.slice (some ⟨V10.heap.size, 0, none⟩) 2 2, .slice (some ⟨V10.heap.size + 1, 0, none⟩) 2 2] 60)) ∧ WrAt (((V10.alloc (.cells #[.int .u8 1, .int .u8 3] 96)).alloc (.cells #[.int .i64 0, .int .i64 1] 3)).alloc (.cells #[.slice (some ⟨V10.heap.size, 0, none⟩) 2 2, .slice (some ⟨V10.heap.size + 1, 0, none⟩) 2 2] 60)) (some ⟨V10.heap.size, 0, none⟩) 2 2 (some ⟨V10.heap.size + 1, 0, none⟩) 2 2 [1, 3] [0, 1] ∧ Blk (((V10.alloc (.cells #[.int .u8 1, .int .u8 3] 96)).alloc (.cells #[.int .i64 0, .int .i64 1] 3)).alloc (.cells #[.slice (some ⟨V10.heap.size, 0, none⟩) 2 2, .slice (some ⟨V10.heap.size + 1, 0, none⟩) 2 2] 60)) (V10.heap.size + 1 + 1) 60 #[.slice (some ⟨V10.heap.size, 0, none⟩) 2 2, .slice (some ⟨V10.heap.size + 1, 0, none⟩) 2 2]) := by
   refine ⟨below_next (lit_below V10 _ _ _ _) (below_box _ _ _), (lit_at V10 [1, 3] [0, 1]).up (below_box _ _ _), ?_⟩
   have h := Blk.new ((V10.alloc (.cells #[.int .u8 1, .int .u8 3] 96)).alloc (.cells #[.int .i64 0, .int .i64 1] 3)) #[.slice (some ⟨V10.heap.size, 0, none⟩) 2 2, .slice (some ⟨V10.heap.size + 1, 0, none⟩) 2 2] 60
   simpa only [World.size_alloc] using h
  go_upto_region 7 with fail
  have HTT11 := Lib.hid (HTT10.out.next HWB.out.1)
  have HWA := Lib.hid HWB.out.2.1
  have HWK := Lib.hid HWB.out.2.2
  clear HWB HTT10 t0 t1 t2 u0 u1 u2
  generalize ((V10.alloc (.cells #[.int .u8 1, .int .u8 3] 96)).alloc (.cells #[.int .i64 0, .int .i64 1] 3)).alloc (.cells #[.slice (some ⟨V10.heap.size, 0, none⟩) 2 2, .slice (some ⟨V10.heap.size + 1, 0, none⟩) 2 2] 60) = V11 at *
  generalize (some (⟨V10.heap.size, 0, none⟩ : Addr)) = CW at *
  generalize (some (⟨V10.heap.size + 1, 0, none⟩ : Addr)) = PW at *
  generalize V10.heap.size + 1 + 1 = qw at *
  have t0 := HTT11.out.ht.cell 0
  have t1 := HTT11.out.ht.cell 1
  have t2 := HTT11.out.ht.cell 2
  have u0 := HTT11.out.hu.cell 0
  have u1 := HTT11.out.hu.cell 1
  have u2 := HTT11.out.hu.cell 2
  simp only [List.getElem?_toArray, List.getElem?_cons_zero, List.getElem?_cons_succ] at t0 t1 t2 u0 u1 u2
  have x0 := HWK.out.cell 0
  have x1 := HWK.out.cell 1
  simp only [List.getElem?_toArray, List.getElem?_cons_zero, List.getElem?_cons_succ] at x0 x1
  go_wp2_with fail
  refine (writes6_any 1 1 Au 3 3 sanU ⟨#[97, 98]⟩ CW PW 2 2 2 2 [1, 3] [0, 1] V11 HTT11.out.u HWA.out (by decide)).mono ?_
  rintro e V12 ⟨rfl, hb⟩
  rw [s6_v.1]
  have HWA2 := Lib.hid (HWA.out.up hb)
  have HWK2 := Lib.hid (HWK.out.keep hb HWK.out.lt)
  have HTT12 := Lib.hid (HTT11.out.next hb)
  clear hb HTT11 t0 t1 t2 u0 u1 u2 x0 x1 HWA HWK
  have HWA := HWA2
  have HWK := HWK2
  clear HWA2 HWK2
  have t0 := HTT12.out.ht.cell 0
  have t1 := HTT12.out.ht.cell 1
  have t2 := HTT12.out.ht.cell 2
  have u0 := HTT12.out.hu.cell 0
  have u1 := HTT12.out.hu.cell 1
  have u2 := HTT12.out.hu.cell 2
  simp only [List.getElem?_toArray, List.getElem?_cons_zero, List.getElem?_cons_succ] at t0 t1 t2 u0 u1 u2
  have x0 := HWK.out.cell 0
  have x1 := HWK.out.cell 1
  simp only [List.getElem?_toArray, List.getElem?_cons_zero, List.getElem?_cons_succ] at x0 x1
  go_wp2_with fail
  refine (writes6_any 1 1 Au 3 3 sanU ⟨#[97, 98, 97]⟩ CW PW 2 2 2 2 [1, 3] [0, 1] V12 HTT12.out.u HWA.out (by decide)).mono ?_
  rintro e V13 ⟨rfl, hb⟩
  rw [s6_v.2.1]
  have HWA2 := Lib.hid (HWA.out.up hb)
  have HWK2 := Lib.hid (HWK.out.keep hb HWK.out.lt)
  have HTT13 := Lib.hid (HTT12.out.next hb)
  clear hb HTT12 t0 t1 t2 u0 u1 u2 x0 x1 HWA HWK
  have HWA := HWA2
  have HWK := HWK2
  clear HWA2 HWK2
  have t0 := HTT13.out.ht.cell 0
  have t1 := HTT13.out.ht.cell 1
  have t2 := HTT13.out.ht.cell 2
  have u0 := HTT13.out.hu.cell 0
  have u1 := HTT13.out.hu.cell 1
  have u2 := HTT13.out.hu.cell 2
  simp only [List.getElem?_toArray, List.getElem?_cons_zero, List.getElem?_cons_succ] at t0 t1 t2 u0 u1 u2
  clear HWA HWK
  go_wp2_with fail
  refine (writes6_any 1 1 Au 3 3 sanU ⟨#[97, 98]⟩ (some ⟨V13.heap.size, 0, none⟩) (some ⟨V13.heap.size + 1, 0, none⟩) 1 1 2 2 [7] [0, 1] ((V13.alloc (.cells #[.int .u8 7] 96)).alloc (.cells #[.int .i64 0, .int .i64 1] 3)) (HTT13.out.next (lit_below V13 _ _ _ _)).u (lit_at V13 [7] [0, 1]) (by decide)).mono ?_
  rintro e VF ⟨rfl, hb⟩
  rw [s6_v.2.2]
  have HFIN := Lib.hid (HTT13.out.next (below_next (lit_below V13 _ _ _ _) hb)).hb
  clear hb HTT13 t0 t1 t2 u0 u1 u2
  go_wp2_with fail
  go_ret
  exact ⟨rfl, HFIN.out⟩
end Go.Proofs.Ytpkdlljefkbmpaa

/-! law06: the reference's Writes and Less. -/
namespace Go.Proofs.Ytpkdlljefkbmpaa
open Go.RowKit Go.Maps
end Go.Proofs.Ytpkdlljefkbmpaa
