/- P2.3: a rule that is spoilt. -/
import Derived.Test.YtjcknfaopmpocaaDoorMake9
import Derived.Deep.Cut
import Derived.Deep.Onto
import Derived.Test.YtjcknfaopmpocaaDoorInv4
import Derived.Test.YtjcknfaopmpocaaDoorOpenT
namespace Go.Proofs.YtjcknfaopmpocaaDoor
open Go.RowKit

/-- What lies in memory when spoilt begins. -/
def PreS (w V : World) (A : Option Addr) (k : Nat) (x : Rule) (at_ wh b nn : Int) : Prop :=
  Blk V w.heap.size 36 #[.string x.p, .slice A x.c.length k, .int .u8 x.l, .int .u8 x.r, .int .i64 x.f, .int .i64 x.t] ∧ Blk V (w.heap.size + 1) 44 #[.int .u8 at_, .int .u8 wh, .int .u8 b, .int .i8 nn] ∧ Blk V (w.heap.size + 1 + 1) 36 #[.string ⟨#[]⟩, .slice none 0 0, .int .u8 0, .int .u8 0, .int .i64 0, .int .i64 0] ∧ Below w.heap.size w V ∧ V.heap.size = w.heap.size + 3
theorem preS_of (w : World) (A : Option Addr) (k : Nat) (x : Rule) (at_ wh b nn : Int) : PreS w (((w.alloc (.cells #[.string x.p, .slice A x.c.length k, .int .u8 x.l, .int .u8 x.r, .int .i64 x.f, .int .i64 x.t] 36)).alloc (.cells #[.int .u8 at_, .int .u8 wh, .int .u8 b, .int .i8 nn] 44)).alloc (.cells #[.string ⟨#[]⟩, .slice none 0 0, .int .u8 0, .int .u8 0, .int .i64 0, .int .i64 0] 36)) A k x at_ wh b nn := by
  have k0 := below_box w #[.string x.p, .slice A x.c.length k, .int .u8 x.l, .int .u8 x.r, .int .i64 x.f, .int .i64 x.t] 36
  have n0 := Blk.new w #[.string x.p, .slice A x.c.length k, .int .u8 x.l, .int .u8 x.r, .int .i64 x.f, .int .i64 x.t] 36
  have s0 : (w.alloc (.cells #[.string x.p, .slice A x.c.length k, .int .u8 x.l, .int .u8 x.r, .int .i64 x.f, .int .i64 x.t] 36)).heap.size = w.heap.size + 1 := by simp
  generalize w.alloc (.cells #[.string x.p, .slice A x.c.length k, .int .u8 x.l, .int .u8 x.r, .int .i64 x.f, .int .i64 x.t] 36) = w1 at *
  have k1 := below_box w1 #[.int .u8 at_, .int .u8 wh, .int .u8 b, .int .i8 nn] 44
  have n1 := Blk.new w1 #[.int .u8 at_, .int .u8 wh, .int .u8 b, .int .i8 nn] 44
  have s1 : (w1.alloc (.cells #[.int .u8 at_, .int .u8 wh, .int .u8 b, .int .i8 nn] 44)).heap.size = w1.heap.size + 1 := by simp
  generalize w1.alloc (.cells #[.int .u8 at_, .int .u8 wh, .int .u8 b, .int .i8 nn] 44) = w2 at *
  have k2 := below_box w2 #[.string ⟨#[]⟩, .slice none 0 0, .int .u8 0, .int .u8 0, .int .i64 0, .int .i64 0] 36
  have n2 := Blk.new w2 #[.string ⟨#[]⟩, .slice none 0 0, .int .u8 0, .int .u8 0, .int .i64 0, .int .i64 0] 36
  have s2 : (w2.alloc (.cells #[.string ⟨#[]⟩, .slice none 0 0, .int .u8 0, .int .u8 0, .int .i64 0, .int .i64 0] 36)).heap.size = w2.heap.size + 1 := by simp
  generalize w2.alloc (.cells #[.string ⟨#[]⟩, .slice none 0 0, .int .u8 0, .int .u8 0, .int .i64 0, .int .i64 0] 36) = w3 at *
  rw [s0] at n1
  rw [s1, s0] at n2
  exact ⟨(n0.keep k1 (by omega)).keep k2 (by omega), n1.keep k2 (by omega), n2, below_next (below_next k0 k1) k2, by omega⟩
def SpoiltEnd (lo : Nat) (w : World) (e : Ending) (w' : World) : Prop := ∃ v y, e = .returned v ∧ IsRule lo y v w' ∧ y.fits ∧ Below w.heap.size w w'
/-- A rule's six cells copied out. -/
theorem spoilt_end {w W : World} {lo g : Nat} {y : Rule} {A : Option Addr} {k : Nat} {zs : Array Value} (hg : w.heap.size ≤ g) (hO : Blk W g 36 zs) (hS : SeqT W lo A y.c) (hB : Below w.heap.size w W) :
    SeqT ((((((W.setCell ⟨g, 0, none⟩ (.string y.p)).setCell ⟨g, 1, none⟩ (.slice A y.c.length k)).setCell ⟨g, 2, none⟩ (.int .u8 y.l)).setCell ⟨g, 3, none⟩ (.int .u8 y.r)).setCell ⟨g, 4, none⟩ (.int .i64 y.f)).setCell ⟨g, 5, none⟩ (.int .i64 y.t)) lo A y.c ∧
    Below w.heap.size w ((((((W.setCell ⟨g, 0, none⟩ (.string y.p)).setCell ⟨g, 1, none⟩ (.slice A y.c.length k)).setCell ⟨g, 2, none⟩ (.int .u8 y.l)).setCell ⟨g, 3, none⟩ (.int .u8 y.r)).setCell ⟨g, 4, none⟩ (.int .i64 y.f)).setCell ⟨g, 5, none⟩ (.int .i64 y.t)) := by
  refine ⟨?_, ?_⟩
  · exact (((((hS.set hO (by decide) _).set (hO.set 0 _) (by decide) _).set ((hO.set 0 _).set 1 _) (by decide) _).set (((hO.set 0 _).set 1 _).set 2 _) (by decide) _).set ((((hO.set 0 _).set 1 _).set 2 _).set 3 _) (by decide) _).set (((((hO.set 0 _).set 1 _).set 2 _).set 3 _).set 4 _) (by decide) _
  · exact (((((hB.setCell hg _).setCell hg _).setCell hg _).setCell hg _).setCell hg _).setCell hg _
set_option maxRecDepth 10000 in
set_option maxHeartbeats 2000000 in
theorem spoilt4_any (w : World) (lo : Nat) (A : Option Addr) (k : Nat) (x : Rule) (at_ wh b nn : Int) (hS : SeqT w lo A x.c) (hp : x.p.size ≤ 4) (hc : 1 ≤ x.c.length ∧ x.c.length ≤ 4) (hk : x.c.length ≤ k) (hx : x.fits) (hf : 0 ≤ x.f ∧ x.f < 8) (ht : 0 ≤ x.t ∧ x.t < 8) (hlo : lo ≤ w.heap.size)
    (hw : 0 ≤ wh ∧ wh < 256) (hb : 0 ≤ b ∧ b < 256) (hn : -128 ≤ nn ∧ nn ≤ 127) (h8 : wh % 8 = 4) :
    Calls Tryd.prog 21 #[.agg #[.string x.p, .slice A x.c.length k, .int .u8 x.l, .int .u8 x.r, .int .i64 x.f, .int .i64 x.t], .agg #[.int .u8 at_, .int .u8 wh, .int .u8 b, .int .i8 nn]] w (SpoiltEnd lo w) := by
  have HS := Lib.hid hS
  have HX := Lib.hid hx
  have hu := And.intro hp (And.intro hc (And.intro hk (And.intro hf (And.intro ht (And.intro hlo (And.intro hb (And.intro hn hw)))))))
  clear hu hS hx
  go_enter Tryd.func21, Tryd.ntmps21
  have PS := Lib.hid (preS_of w A k x at_ wh b nn)
  go_upto_region 1 with fail
  generalize (((w.alloc (.cells #[.string x.p, .slice A x.c.length k, .int .u8 x.l, .int .u8 x.r, .int .i64 x.f, .int .i64 x.t] 36)).alloc (.cells #[.int .u8 at_, .int .u8 wh, .int .u8 b, .int .i8 nn] 44)).alloc (.cells #[.string ⟨#[]⟩, .slice none 0 0, .int .u8 0, .int .u8 0, .int .i64 0, .int .i64 0] 36)) = V at *
  have s1 := PS.out.2.1.cell 1
  have s2 := PS.out.2.1.cell 2
  have s3 := PS.out.2.1.cell 3
  have x0 := PS.out.1.cell 0
  have x1 := PS.out.1.cell 1
  have x2 := PS.out.1.cell 2
  have x3 := PS.out.1.cell 3
  have x4 := PS.out.1.cell 4
  have x5 := PS.out.1.cell 5
  have f0 := PS.out.1.free 0
  have f1 := PS.out.1.free 1
  have f2 := PS.out.1.free 2
  have f3 := PS.out.1.free 3
  have f4 := PS.out.1.free 4
  have f5 := PS.out.1.free 5
  have r0 := PS.out.2.2.1.cell 0
  have r1 := PS.out.2.2.1.cell 1
  have r2 := PS.out.2.2.1.cell 2
  have r3 := PS.out.2.2.1.cell 3
  have r4 := PS.out.2.2.1.cell 4
  have r5 := PS.out.2.2.1.cell 5
  have q0 := PS.out.2.2.1.free 0
  have q1 := PS.out.2.2.1.free 1
  have q2 := PS.out.2.2.1.free 2
  have q3 := PS.out.2.2.1.free 3
  have q4 := PS.out.2.2.1.free 4
  have q5 := PS.out.2.2.1.free 5
  simp only [List.getElem?_toArray, List.getElem?_cons_zero, List.getElem?_cons_succ] at s1 s2 s3 x0 x1 x2 x3 x4 x5 r0 r1 r2 r3 r4 r5
  have HSV := Lib.hid (HS.out.below PS.out.2.2.2.1)
  go_wp2_with fail
  have hO : Blk (V.setCell ⟨w.heap.size, 2, none⟩ (.int .u8 b)) (w.heap.size + 1 + 1) 36 #[.string ⟨#[]⟩, .slice none 0 0, .int .u8 0, .int .u8 0, .int .i64 0, .int .i64 0] := (Below.heap_setCell _ _ _ _ (by show w.heap.size + 1 + 1 ≠ w.heap.size; omega)).trans PS.out.2.2.1
  have hS' : SeqT (V.setCell ⟨w.heap.size, 2, none⟩ (.int .u8 b)) lo A (⟨x.p, x.c, b, x.r, x.f, x.t⟩ : Rule).c := HSV.out.set PS.out.1 (by decide) _
  have hB : Below w.heap.size w (V.setCell ⟨w.heap.size, 2, none⟩ (.int .u8 b)) := PS.out.2.2.2.1.setCell (Nat.le_refl _) _
  obtain ⟨e1, e2⟩ := spoilt_end (y := (⟨x.p, x.c, b, x.r, x.f, x.t⟩ : Rule)) (A := A) (k := k) (by omega : w.heap.size ≤ w.heap.size + 1 + 1) hO hS' hB
  exact bodyPost_ret (v := .agg #[.string ((⟨x.p, x.c, b, x.r, x.f, x.t⟩ : Rule)).p, .slice A ((⟨x.p, x.c, b, x.r, x.f, x.t⟩ : Rule)).c.length k, .int .u8 ((⟨x.p, x.c, b, x.r, x.f, x.t⟩ : Rule)).l, .int .u8 ((⟨x.p, x.c, b, x.r, x.f, x.t⟩ : Rule)).r, .int .i64 ((⟨x.p, x.c, b, x.r, x.f, x.t⟩ : Rule)).f, .int .i64 ((⟨x.p, x.c, b, x.r, x.f, x.t⟩ : Rule)).t]) (by simp [results, Tryd.results21, go_sem, r0, r1, r2, r3, r4, r5]) rfl ⟨_, (⟨x.p, x.c, b, x.r, x.f, x.t⟩ : Rule), rfl, ⟨_, _, rfl, SeqC.mk_ e1 hk⟩, ⟨HX.out.1, HX.out.2.1, HX.out.2.2.1, hb, HX.out.2.2.2.2⟩, e2⟩

set_option maxRecDepth 10000 in
set_option maxHeartbeats 2000000 in
theorem spoilt5_any (w : World) (lo : Nat) (A : Option Addr) (k : Nat) (x : Rule) (at_ wh b nn : Int) (hS : SeqT w lo A x.c) (hp : x.p.size ≤ 4) (hc : 1 ≤ x.c.length ∧ x.c.length ≤ 4) (hk : x.c.length ≤ k) (hx : x.fits) (hf : 0 ≤ x.f ∧ x.f < 8) (ht : 0 ≤ x.t ∧ x.t < 8) (hlo : lo ≤ w.heap.size)
    (hw : 0 ≤ wh ∧ wh < 256) (hb : 0 ≤ b ∧ b < 256) (hn : -128 ≤ nn ∧ nn ≤ 127) (h8 : wh % 8 = 5) :
    Calls Tryd.prog 21 #[.agg #[.string x.p, .slice A x.c.length k, .int .u8 x.l, .int .u8 x.r, .int .i64 x.f, .int .i64 x.t], .agg #[.int .u8 at_, .int .u8 wh, .int .u8 b, .int .i8 nn]] w (SpoiltEnd lo w) := by
  have HS := Lib.hid hS
  have HX := Lib.hid hx
  have hu := And.intro hp (And.intro hc (And.intro hk (And.intro hf (And.intro ht (And.intro hlo (And.intro hb (And.intro hn hw)))))))
  clear hu hS hx
  go_enter Tryd.func21, Tryd.ntmps21
  have PS := Lib.hid (preS_of w A k x at_ wh b nn)
  go_upto_region 1 with fail
  generalize (((w.alloc (.cells #[.string x.p, .slice A x.c.length k, .int .u8 x.l, .int .u8 x.r, .int .i64 x.f, .int .i64 x.t] 36)).alloc (.cells #[.int .u8 at_, .int .u8 wh, .int .u8 b, .int .i8 nn] 44)).alloc (.cells #[.string ⟨#[]⟩, .slice none 0 0, .int .u8 0, .int .u8 0, .int .i64 0, .int .i64 0] 36)) = V at *
  have s1 := PS.out.2.1.cell 1
  have s2 := PS.out.2.1.cell 2
  have s3 := PS.out.2.1.cell 3
  have x0 := PS.out.1.cell 0
  have x1 := PS.out.1.cell 1
  have x2 := PS.out.1.cell 2
  have x3 := PS.out.1.cell 3
  have x4 := PS.out.1.cell 4
  have x5 := PS.out.1.cell 5
  have f0 := PS.out.1.free 0
  have f1 := PS.out.1.free 1
  have f2 := PS.out.1.free 2
  have f3 := PS.out.1.free 3
  have f4 := PS.out.1.free 4
  have f5 := PS.out.1.free 5
  have r0 := PS.out.2.2.1.cell 0
  have r1 := PS.out.2.2.1.cell 1
  have r2 := PS.out.2.2.1.cell 2
  have r3 := PS.out.2.2.1.cell 3
  have r4 := PS.out.2.2.1.cell 4
  have r5 := PS.out.2.2.1.cell 5
  have q0 := PS.out.2.2.1.free 0
  have q1 := PS.out.2.2.1.free 1
  have q2 := PS.out.2.2.1.free 2
  have q3 := PS.out.2.2.1.free 3
  have q4 := PS.out.2.2.1.free 4
  have q5 := PS.out.2.2.1.free 5
  simp only [List.getElem?_toArray, List.getElem?_cons_zero, List.getElem?_cons_succ] at s1 s2 s3 x0 x1 x2 x3 x4 x5 r0 r1 r2 r3 r4 r5
  have HSV := Lib.hid (HS.out.below PS.out.2.2.2.1)
  go_wp2_with fail
  have hO : Blk (V.setCell ⟨w.heap.size, 3, none⟩ (.int .u8 b)) (w.heap.size + 1 + 1) 36 #[.string ⟨#[]⟩, .slice none 0 0, .int .u8 0, .int .u8 0, .int .i64 0, .int .i64 0] := (Below.heap_setCell _ _ _ _ (by show w.heap.size + 1 + 1 ≠ w.heap.size; omega)).trans PS.out.2.2.1
  have hS' : SeqT (V.setCell ⟨w.heap.size, 3, none⟩ (.int .u8 b)) lo A (⟨x.p, x.c, x.l, b, x.f, x.t⟩ : Rule).c := HSV.out.set PS.out.1 (by decide) _
  have hB : Below w.heap.size w (V.setCell ⟨w.heap.size, 3, none⟩ (.int .u8 b)) := PS.out.2.2.2.1.setCell (Nat.le_refl _) _
  obtain ⟨e1, e2⟩ := spoilt_end (y := (⟨x.p, x.c, x.l, b, x.f, x.t⟩ : Rule)) (A := A) (k := k) (by omega : w.heap.size ≤ w.heap.size + 1 + 1) hO hS' hB
  exact bodyPost_ret (v := .agg #[.string ((⟨x.p, x.c, x.l, b, x.f, x.t⟩ : Rule)).p, .slice A ((⟨x.p, x.c, x.l, b, x.f, x.t⟩ : Rule)).c.length k, .int .u8 ((⟨x.p, x.c, x.l, b, x.f, x.t⟩ : Rule)).l, .int .u8 ((⟨x.p, x.c, x.l, b, x.f, x.t⟩ : Rule)).r, .int .i64 ((⟨x.p, x.c, x.l, b, x.f, x.t⟩ : Rule)).f, .int .i64 ((⟨x.p, x.c, x.l, b, x.f, x.t⟩ : Rule)).t]) (by simp [results, Tryd.results21, go_sem, r0, r1, r2, r3, r4, r5]) rfl ⟨_, (⟨x.p, x.c, x.l, b, x.f, x.t⟩ : Rule), rfl, ⟨_, _, rfl, SeqC.mk_ e1 hk⟩, ⟨HX.out.1, HX.out.2.1, HX.out.2.2.1, HX.out.2.2.2.1, hb, HX.out.2.2.2.2.2⟩, e2⟩

set_option maxRecDepth 10000 in
set_option maxHeartbeats 2000000 in
theorem spoilt6_any (w : World) (lo : Nat) (A : Option Addr) (k : Nat) (x : Rule) (at_ wh b nn : Int) (hS : SeqT w lo A x.c) (hp : x.p.size ≤ 4) (hc : 1 ≤ x.c.length ∧ x.c.length ≤ 4) (hk : x.c.length ≤ k) (hx : x.fits) (hf : 0 ≤ x.f ∧ x.f < 8) (ht : 0 ≤ x.t ∧ x.t < 8) (hlo : lo ≤ w.heap.size)
    (hw : 0 ≤ wh ∧ wh < 256) (hb : 0 ≤ b ∧ b < 256) (hn : -128 ≤ nn ∧ nn ≤ 127) (h8 : wh % 8 = 6) :
    Calls Tryd.prog 21 #[.agg #[.string x.p, .slice A x.c.length k, .int .u8 x.l, .int .u8 x.r, .int .i64 x.f, .int .i64 x.t], .agg #[.int .u8 at_, .int .u8 wh, .int .u8 b, .int .i8 nn]] w (SpoiltEnd lo w) := by
  have HS := Lib.hid hS
  have HX := Lib.hid hx
  have hu := And.intro hp (And.intro hc (And.intro hk (And.intro hf (And.intro ht (And.intro hlo (And.intro hb (And.intro hn hw)))))))
  clear hu hS hx
  go_enter Tryd.func21, Tryd.ntmps21
  have PS := Lib.hid (preS_of w A k x at_ wh b nn)
  go_upto_region 1 with fail
  generalize (((w.alloc (.cells #[.string x.p, .slice A x.c.length k, .int .u8 x.l, .int .u8 x.r, .int .i64 x.f, .int .i64 x.t] 36)).alloc (.cells #[.int .u8 at_, .int .u8 wh, .int .u8 b, .int .i8 nn] 44)).alloc (.cells #[.string ⟨#[]⟩, .slice none 0 0, .int .u8 0, .int .u8 0, .int .i64 0, .int .i64 0] 36)) = V at *
  have s1 := PS.out.2.1.cell 1
  have s2 := PS.out.2.1.cell 2
  have s3 := PS.out.2.1.cell 3
  have x0 := PS.out.1.cell 0
  have x1 := PS.out.1.cell 1
  have x2 := PS.out.1.cell 2
  have x3 := PS.out.1.cell 3
  have x4 := PS.out.1.cell 4
  have x5 := PS.out.1.cell 5
  have f0 := PS.out.1.free 0
  have f1 := PS.out.1.free 1
  have f2 := PS.out.1.free 2
  have f3 := PS.out.1.free 3
  have f4 := PS.out.1.free 4
  have f5 := PS.out.1.free 5
  have r0 := PS.out.2.2.1.cell 0
  have r1 := PS.out.2.2.1.cell 1
  have r2 := PS.out.2.2.1.cell 2
  have r3 := PS.out.2.2.1.cell 3
  have r4 := PS.out.2.2.1.cell 4
  have r5 := PS.out.2.2.1.cell 5
  have q0 := PS.out.2.2.1.free 0
  have q1 := PS.out.2.2.1.free 1
  have q2 := PS.out.2.2.1.free 2
  have q3 := PS.out.2.2.1.free 3
  have q4 := PS.out.2.2.1.free 4
  have q5 := PS.out.2.2.1.free 5
  simp only [List.getElem?_toArray, List.getElem?_cons_zero, List.getElem?_cons_succ] at s1 s2 s3 x0 x1 x2 x3 x4 x5 r0 r1 r2 r3 r4 r5
  have HSV := Lib.hid (HS.out.below PS.out.2.2.2.1)
  go_wp2_with fail
  have hO : Blk (V.setCell ⟨w.heap.size, 4, none⟩ (.int .i64 (x.f + nn))) (w.heap.size + 1 + 1) 36 #[.string ⟨#[]⟩, .slice none 0 0, .int .u8 0, .int .u8 0, .int .i64 0, .int .i64 0] := (Below.heap_setCell _ _ _ _ (by show w.heap.size + 1 + 1 ≠ w.heap.size; omega)).trans PS.out.2.2.1
  have hS' : SeqT (V.setCell ⟨w.heap.size, 4, none⟩ (.int .i64 (x.f + nn))) lo A (⟨x.p, x.c, x.l, x.r, x.f + nn, x.t⟩ : Rule).c := HSV.out.set PS.out.1 (by decide) _
  have hB : Below w.heap.size w (V.setCell ⟨w.heap.size, 4, none⟩ (.int .i64 (x.f + nn))) := PS.out.2.2.2.1.setCell (Nat.le_refl _) _
  obtain ⟨e1, e2⟩ := spoilt_end (y := (⟨x.p, x.c, x.l, x.r, x.f + nn, x.t⟩ : Rule)) (A := A) (k := k) (by omega : w.heap.size ≤ w.heap.size + 1 + 1) hO hS' hB
  exact bodyPost_ret (v := .agg #[.string ((⟨x.p, x.c, x.l, x.r, x.f + nn, x.t⟩ : Rule)).p, .slice A ((⟨x.p, x.c, x.l, x.r, x.f + nn, x.t⟩ : Rule)).c.length k, .int .u8 ((⟨x.p, x.c, x.l, x.r, x.f + nn, x.t⟩ : Rule)).l, .int .u8 ((⟨x.p, x.c, x.l, x.r, x.f + nn, x.t⟩ : Rule)).r, .int .i64 ((⟨x.p, x.c, x.l, x.r, x.f + nn, x.t⟩ : Rule)).f, .int .i64 ((⟨x.p, x.c, x.l, x.r, x.f + nn, x.t⟩ : Rule)).t]) (by simp [results, Tryd.results21, go_sem, r0, r1, r2, r3, r4, r5]) rfl ⟨_, (⟨x.p, x.c, x.l, x.r, x.f + nn, x.t⟩ : Rule), rfl, ⟨_, _, rfl, SeqC.mk_ e1 hk⟩, ⟨HX.out.1, HX.out.2.1, HX.out.2.2.1, HX.out.2.2.2.1, HX.out.2.2.2.2.1, ⟨by show _ ≤ x.f + nn; omega, by show x.f + nn ≤ _; omega⟩, HX.out.2.2.2.2.2.2⟩, e2⟩

set_option maxRecDepth 10000 in
set_option maxHeartbeats 2000000 in
theorem spoilt7_any (w : World) (lo : Nat) (A : Option Addr) (k : Nat) (x : Rule) (at_ wh b nn : Int) (hS : SeqT w lo A x.c) (hp : x.p.size ≤ 4) (hc : 1 ≤ x.c.length ∧ x.c.length ≤ 4) (hk : x.c.length ≤ k) (hx : x.fits) (hf : 0 ≤ x.f ∧ x.f < 8) (ht : 0 ≤ x.t ∧ x.t < 8) (hlo : lo ≤ w.heap.size)
    (hw : 0 ≤ wh ∧ wh < 256) (hb : 0 ≤ b ∧ b < 256) (hn : -128 ≤ nn ∧ nn ≤ 127) (h8 : wh % 8 = 7) :
    Calls Tryd.prog 21 #[.agg #[.string x.p, .slice A x.c.length k, .int .u8 x.l, .int .u8 x.r, .int .i64 x.f, .int .i64 x.t], .agg #[.int .u8 at_, .int .u8 wh, .int .u8 b, .int .i8 nn]] w (SpoiltEnd lo w) := by
  have HS := Lib.hid hS
  have HX := Lib.hid hx
  have hu := And.intro hp (And.intro hc (And.intro hk (And.intro hf (And.intro ht (And.intro hlo (And.intro hb (And.intro hn hw)))))))
  clear hu hS hx
  go_enter Tryd.func21, Tryd.ntmps21
  have PS := Lib.hid (preS_of w A k x at_ wh b nn)
  go_upto_region 1 with fail
  generalize (((w.alloc (.cells #[.string x.p, .slice A x.c.length k, .int .u8 x.l, .int .u8 x.r, .int .i64 x.f, .int .i64 x.t] 36)).alloc (.cells #[.int .u8 at_, .int .u8 wh, .int .u8 b, .int .i8 nn] 44)).alloc (.cells #[.string ⟨#[]⟩, .slice none 0 0, .int .u8 0, .int .u8 0, .int .i64 0, .int .i64 0] 36)) = V at *
  have s1 := PS.out.2.1.cell 1
  have s2 := PS.out.2.1.cell 2
  have s3 := PS.out.2.1.cell 3
  have x0 := PS.out.1.cell 0
  have x1 := PS.out.1.cell 1
  have x2 := PS.out.1.cell 2
  have x3 := PS.out.1.cell 3
  have x4 := PS.out.1.cell 4
  have x5 := PS.out.1.cell 5
  have f0 := PS.out.1.free 0
  have f1 := PS.out.1.free 1
  have f2 := PS.out.1.free 2
  have f3 := PS.out.1.free 3
  have f4 := PS.out.1.free 4
  have f5 := PS.out.1.free 5
  have r0 := PS.out.2.2.1.cell 0
  have r1 := PS.out.2.2.1.cell 1
  have r2 := PS.out.2.2.1.cell 2
  have r3 := PS.out.2.2.1.cell 3
  have r4 := PS.out.2.2.1.cell 4
  have r5 := PS.out.2.2.1.cell 5
  have q0 := PS.out.2.2.1.free 0
  have q1 := PS.out.2.2.1.free 1
  have q2 := PS.out.2.2.1.free 2
  have q3 := PS.out.2.2.1.free 3
  have q4 := PS.out.2.2.1.free 4
  have q5 := PS.out.2.2.1.free 5
  simp only [List.getElem?_toArray, List.getElem?_cons_zero, List.getElem?_cons_succ] at s1 s2 s3 x0 x1 x2 x3 x4 x5 r0 r1 r2 r3 r4 r5
  have HSV := Lib.hid (HS.out.below PS.out.2.2.2.1)
  go_wp2_with fail
  have hO : Blk (V.setCell ⟨w.heap.size, 5, none⟩ (.int .i64 (x.t + nn))) (w.heap.size + 1 + 1) 36 #[.string ⟨#[]⟩, .slice none 0 0, .int .u8 0, .int .u8 0, .int .i64 0, .int .i64 0] := (Below.heap_setCell _ _ _ _ (by show w.heap.size + 1 + 1 ≠ w.heap.size; omega)).trans PS.out.2.2.1
  have hS' : SeqT (V.setCell ⟨w.heap.size, 5, none⟩ (.int .i64 (x.t + nn))) lo A (⟨x.p, x.c, x.l, x.r, x.f, x.t + nn⟩ : Rule).c := HSV.out.set PS.out.1 (by decide) _
  have hB : Below w.heap.size w (V.setCell ⟨w.heap.size, 5, none⟩ (.int .i64 (x.t + nn))) := PS.out.2.2.2.1.setCell (Nat.le_refl _) _
  obtain ⟨e1, e2⟩ := spoilt_end (y := (⟨x.p, x.c, x.l, x.r, x.f, x.t + nn⟩ : Rule)) (A := A) (k := k) (by omega : w.heap.size ≤ w.heap.size + 1 + 1) hO hS' hB
  exact bodyPost_ret (v := .agg #[.string ((⟨x.p, x.c, x.l, x.r, x.f, x.t + nn⟩ : Rule)).p, .slice A ((⟨x.p, x.c, x.l, x.r, x.f, x.t + nn⟩ : Rule)).c.length k, .int .u8 ((⟨x.p, x.c, x.l, x.r, x.f, x.t + nn⟩ : Rule)).l, .int .u8 ((⟨x.p, x.c, x.l, x.r, x.f, x.t + nn⟩ : Rule)).r, .int .i64 ((⟨x.p, x.c, x.l, x.r, x.f, x.t + nn⟩ : Rule)).f, .int .i64 ((⟨x.p, x.c, x.l, x.r, x.f, x.t + nn⟩ : Rule)).t]) (by simp [results, Tryd.results21, go_sem, r0, r1, r2, r3, r4, r5]) rfl ⟨_, (⟨x.p, x.c, x.l, x.r, x.f, x.t + nn⟩ : Rule), rfl, ⟨_, _, rfl, SeqC.mk_ e1 hk⟩, ⟨HX.out.1, HX.out.2.1, HX.out.2.2.1, HX.out.2.2.2.1, HX.out.2.2.2.2.1, HX.out.2.2.2.2.2.1, ⟨by show _ ≤ x.t + nn; omega, by show x.t + nn ≤ _; omega⟩⟩, e2⟩

set_option maxRecDepth 10000 in
set_option maxHeartbeats 2000000 in
theorem spoilt1_any (w : World) (lo : Nat) (A : Option Addr) (k : Nat) (x : Rule) (at_ wh b nn : Int) (hS : SeqT w lo A x.c) (hp : x.p.size ≤ 4) (hc : 1 ≤ x.c.length ∧ x.c.length ≤ 4) (hk : x.c.length ≤ k) (hx : x.fits) (hf : 0 ≤ x.f ∧ x.f < 8) (ht : 0 ≤ x.t ∧ x.t < 8) (hlo : lo ≤ w.heap.size)
    (hw : 0 ≤ wh ∧ wh < 256) (hb : 0 ≤ b ∧ b < 256) (hn : -128 ≤ nn ∧ nn ≤ 127) (h8 : wh % 8 = 1) :
    Calls Tryd.prog 21 #[.agg #[.string x.p, .slice A x.c.length k, .int .u8 x.l, .int .u8 x.r, .int .i64 x.f, .int .i64 x.t], .agg #[.int .u8 at_, .int .u8 wh, .int .u8 b, .int .i8 nn]] w (SpoiltEnd lo w) := by
  have HS := Lib.hid hS
  have HX := Lib.hid hx
  have hu := And.intro hp (And.intro hc (And.intro hk (And.intro hf (And.intro ht (And.intro hlo (And.intro hb (And.intro hn hw)))))))
  clear hu hS hx
  go_enter Tryd.func21, Tryd.ntmps21
  have PS := Lib.hid (preS_of w A k x at_ wh b nn)
  go_upto_region 1 with fail
  generalize (((w.alloc (.cells #[.string x.p, .slice A x.c.length k, .int .u8 x.l, .int .u8 x.r, .int .i64 x.f, .int .i64 x.t] 36)).alloc (.cells #[.int .u8 at_, .int .u8 wh, .int .u8 b, .int .i8 nn] 44)).alloc (.cells #[.string ⟨#[]⟩, .slice none 0 0, .int .u8 0, .int .u8 0, .int .i64 0, .int .i64 0] 36)) = V at *
  have s1 := PS.out.2.1.cell 1
  have s2 := PS.out.2.1.cell 2
  have s3 := PS.out.2.1.cell 3
  have x0 := PS.out.1.cell 0
  have x1 := PS.out.1.cell 1
  have x2 := PS.out.1.cell 2
  have x3 := PS.out.1.cell 3
  have x4 := PS.out.1.cell 4
  have x5 := PS.out.1.cell 5
  have f0 := PS.out.1.free 0
  have f1 := PS.out.1.free 1
  have f2 := PS.out.1.free 2
  have f3 := PS.out.1.free 3
  have f4 := PS.out.1.free 4
  have f5 := PS.out.1.free 5
  have r0 := PS.out.2.2.1.cell 0
  have r1 := PS.out.2.2.1.cell 1
  have r2 := PS.out.2.2.1.cell 2
  have r3 := PS.out.2.2.1.cell 3
  have r4 := PS.out.2.2.1.cell 4
  have r5 := PS.out.2.2.1.cell 5
  have q0 := PS.out.2.2.1.free 0
  have q1 := PS.out.2.2.1.free 1
  have q2 := PS.out.2.2.1.free 2
  have q3 := PS.out.2.2.1.free 3
  have q4 := PS.out.2.2.1.free 4
  have q5 := PS.out.2.2.1.free 5
  simp only [List.getElem?_toArray, List.getElem?_cons_zero, List.getElem?_cons_succ] at s1 s2 s3 x0 x1 x2 x3 x4 x5 r0 r1 r2 r3 r4 r5
  have HSV := Lib.hid (HS.out.below PS.out.2.2.2.1)
  obtain ⟨j6, hj6, hj66⟩ : ∃ j : Nat, b % 6 = (j : Int) ∧ j < 6 := ⟨(b % 6).toNat, by omega, by omega⟩
  have hj5 : (j6 : Int) ≤ 5 := by omega
  go_wp2_with fail
  have hO : Blk (V.setCell ⟨w.heap.size, 0, none⟩ (.string ((⟨#[97, 98, 99, 100, 101]⟩ : ByteArray).extract 0 j6))) (w.heap.size + 1 + 1) 36 #[.string ⟨#[]⟩, .slice none 0 0, .int .u8 0, .int .u8 0, .int .i64 0, .int .i64 0] := (Below.heap_setCell _ _ _ _ (by show w.heap.size + 1 + 1 ≠ w.heap.size; omega)).trans PS.out.2.2.1
  have hS' : SeqT (V.setCell ⟨w.heap.size, 0, none⟩ (.string ((⟨#[97, 98, 99, 100, 101]⟩ : ByteArray).extract 0 j6))) lo A (⟨((⟨#[97, 98, 99, 100, 101]⟩ : ByteArray).extract 0 j6), x.c, x.l, x.r, x.f, x.t⟩ : Rule).c := HSV.out.set PS.out.1 (by decide) _
  have hB : Below w.heap.size w (V.setCell ⟨w.heap.size, 0, none⟩ (.string ((⟨#[97, 98, 99, 100, 101]⟩ : ByteArray).extract 0 j6))) := PS.out.2.2.2.1.setCell (Nat.le_refl _) _
  obtain ⟨e1, e2⟩ := spoilt_end (y := (⟨((⟨#[97, 98, 99, 100, 101]⟩ : ByteArray).extract 0 j6), x.c, x.l, x.r, x.f, x.t⟩ : Rule)) (A := A) (k := k) (by omega : w.heap.size ≤ w.heap.size + 1 + 1) hO hS' hB
  exact bodyPost_ret (v := .agg #[.string ((⟨((⟨#[97, 98, 99, 100, 101]⟩ : ByteArray).extract 0 j6), x.c, x.l, x.r, x.f, x.t⟩ : Rule)).p, .slice A ((⟨((⟨#[97, 98, 99, 100, 101]⟩ : ByteArray).extract 0 j6), x.c, x.l, x.r, x.f, x.t⟩ : Rule)).c.length k, .int .u8 ((⟨((⟨#[97, 98, 99, 100, 101]⟩ : ByteArray).extract 0 j6), x.c, x.l, x.r, x.f, x.t⟩ : Rule)).l, .int .u8 ((⟨((⟨#[97, 98, 99, 100, 101]⟩ : ByteArray).extract 0 j6), x.c, x.l, x.r, x.f, x.t⟩ : Rule)).r, .int .i64 ((⟨((⟨#[97, 98, 99, 100, 101]⟩ : ByteArray).extract 0 j6), x.c, x.l, x.r, x.f, x.t⟩ : Rule)).f, .int .i64 ((⟨((⟨#[97, 98, 99, 100, 101]⟩ : ByteArray).extract 0 j6), x.c, x.l, x.r, x.f, x.t⟩ : Rule)).t]) (by simp [results, Tryd.results21, go_sem, r0, r1, r2, r3, r4, r5]) rfl ⟨_, (⟨((⟨#[97, 98, 99, 100, 101]⟩ : ByteArray).extract 0 j6), x.c, x.l, x.r, x.f, x.t⟩ : Rule), rfl, ⟨_, _, rfl, SeqC.mk_ e1 hk⟩, ⟨by show ByteArray.size _ < _; rw [ByteArray.size_extract]; omega, HX.out.2⟩, e2⟩

set_option maxRecDepth 10000 in
set_option maxHeartbeats 2000000 in
theorem spoilt0_any (w : World) (lo : Nat) (A : Option Addr) (k : Nat) (x : Rule) (at_ wh b nn : Int) (hS : SeqT w lo A x.c) (hp : x.p.size ≤ 4) (hc : 1 ≤ x.c.length ∧ x.c.length ≤ 4) (hk : x.c.length ≤ k) (hx : x.fits) (hf : 0 ≤ x.f ∧ x.f < 8) (ht : 0 ≤ x.t ∧ x.t < 8) (hlo : lo ≤ w.heap.size)
    (hw : 0 ≤ wh ∧ wh < 256) (hb : 0 ≤ b ∧ b < 256) (hn : -128 ≤ nn ∧ nn ≤ 127) (h8 : wh % 8 = 0) :
    Calls Tryd.prog 21 #[.agg #[.string x.p, .slice A x.c.length k, .int .u8 x.l, .int .u8 x.r, .int .i64 x.f, .int .i64 x.t], .agg #[.int .u8 at_, .int .u8 wh, .int .u8 b, .int .i8 nn]] w (SpoiltEnd lo w) := by
  have HS := Lib.hid hS
  have HX := Lib.hid hx
  have hu := And.intro hp (And.intro hc (And.intro hk (And.intro hf (And.intro ht (And.intro hlo (And.intro hb (And.intro hn hw)))))))
  clear hu hS hx
  go_enter Tryd.func21, Tryd.ntmps21
  have PS := Lib.hid (preS_of w A k x at_ wh b nn)
  go_upto_region 1 with fail
  generalize (((w.alloc (.cells #[.string x.p, .slice A x.c.length k, .int .u8 x.l, .int .u8 x.r, .int .i64 x.f, .int .i64 x.t] 36)).alloc (.cells #[.int .u8 at_, .int .u8 wh, .int .u8 b, .int .i8 nn] 44)).alloc (.cells #[.string ⟨#[]⟩, .slice none 0 0, .int .u8 0, .int .u8 0, .int .i64 0, .int .i64 0] 36)) = V at *
  have s1 := PS.out.2.1.cell 1
  have s2 := PS.out.2.1.cell 2
  have s3 := PS.out.2.1.cell 3
  have x0 := PS.out.1.cell 0
  have x1 := PS.out.1.cell 1
  have x2 := PS.out.1.cell 2
  have x3 := PS.out.1.cell 3
  have x4 := PS.out.1.cell 4
  have x5 := PS.out.1.cell 5
  have f0 := PS.out.1.free 0
  have f1 := PS.out.1.free 1
  have f2 := PS.out.1.free 2
  have f3 := PS.out.1.free 3
  have f4 := PS.out.1.free 4
  have f5 := PS.out.1.free 5
  have r0 := PS.out.2.2.1.cell 0
  have r1 := PS.out.2.2.1.cell 1
  have r2 := PS.out.2.2.1.cell 2
  have r3 := PS.out.2.2.1.cell 3
  have r4 := PS.out.2.2.1.cell 4
  have r5 := PS.out.2.2.1.cell 5
  have q0 := PS.out.2.2.1.free 0
  have q1 := PS.out.2.2.1.free 1
  have q2 := PS.out.2.2.1.free 2
  have q3 := PS.out.2.2.1.free 3
  have q4 := PS.out.2.2.1.free 4
  have q5 := PS.out.2.2.1.free 5
  simp only [List.getElem?_toArray, List.getElem?_cons_zero, List.getElem?_cons_succ] at s1 s2 s3 x0 x1 x2 x3 x4 x5 r0 r1 r2 r3 r4 r5
  have HSV := Lib.hid (HS.out.below PS.out.2.2.2.1)
  have hcv := conv_row (V.alloc (.cells #[.int .u8 b] 5)) V.heap.size 1 1 (fun _ => b) 5 (Blk.new _ _ _)
  have hcv : (convert 51 9 (.slice (some ⟨V.heap.size, 0, none⟩) 1 1)).run Tryd.prog (V.alloc (.cells #[.int .u8 b] 5)) = .ok (.string (strOf [b])) (V.alloc (.cells #[.int .u8 b] 5)) := hcv
  have hz : Hid (Blk (V.alloc (.cells #[.int .u8 b] 5)) w.heap.size 36 #[.string x.p, .slice A x.c.length k, .int .u8 x.l, .int .u8 x.r, .int .i64 x.f, .int .i64 x.t]) := PS.out.1.box
  have hzr : Hid (Blk (V.alloc (.cells #[.int .u8 b] 5)) (w.heap.size + 1 + 1) 36 #[.string ⟨#[]⟩, .slice none 0 0, .int .u8 0, .int .u8 0, .int .i64 0, .int .i64 0]) := PS.out.2.2.1.box
  have z0 := hz.out.cell 0
  have zr0 := hzr.out.cell 0
  have zf0 := hzr.out.free 0
  have z1 := hz.out.cell 1
  have zr1 := hzr.out.cell 1
  have zf1 := hzr.out.free 1
  have z2 := hz.out.cell 2
  have zr2 := hzr.out.cell 2
  have zf2 := hzr.out.free 2
  have z3 := hz.out.cell 3
  have zr3 := hzr.out.cell 3
  have zf3 := hzr.out.free 3
  have z4 := hz.out.cell 4
  have zr4 := hzr.out.cell 4
  have zf4 := hzr.out.free 4
  have z5 := hz.out.cell 5
  have zr5 := hzr.out.cell 5
  have zf5 := hzr.out.free 5
  have zg0 := hz.out.free 0
  simp only [List.getElem?_toArray, List.getElem?_cons_zero, List.getElem?_cons_succ] at z0 z1 z2 z3 z4 z5 zr0 zr1 zr2 zr3 zr4 zr5
  have hbig : ¬ 9223372036854775807 < x.p.size + (strOf [b]).size := by rw [strOf_size]; show ¬ _ < x.p.size + 1; omega
  go_wp2_with fail
  have hO : Blk ((V.alloc (.cells #[.int .u8 b] 5)).setCell ⟨w.heap.size, 0, none⟩ (.string (x.p ++ strOf [b]))) (w.heap.size + 1 + 1) 36 #[.string ⟨#[]⟩, .slice none 0 0, .int .u8 0, .int .u8 0, .int .i64 0, .int .i64 0] := (Below.heap_setCell _ _ _ _ (by show w.heap.size + 1 + 1 ≠ w.heap.size; omega)).trans PS.out.2.2.1.box
  have hS' : SeqT ((V.alloc (.cells #[.int .u8 b] 5)).setCell ⟨w.heap.size, 0, none⟩ (.string (x.p ++ strOf [b]))) lo A (⟨x.p ++ strOf [b], x.c, x.l, x.r, x.f, x.t⟩ : Rule).c := (HSV.out.below (below_box V _ _)).set hz.out (by decide) _
  have hB : Below w.heap.size w ((V.alloc (.cells #[.int .u8 b] 5)).setCell ⟨w.heap.size, 0, none⟩ (.string (x.p ++ strOf [b]))) := (PS.out.2.2.2.1.alloc PS.out.2.2.2.1.size _).setCell (Nat.le_refl _) _
  obtain ⟨e1, e2⟩ := spoilt_end (y := (⟨x.p ++ strOf [b], x.c, x.l, x.r, x.f, x.t⟩ : Rule)) (A := A) (k := k) (by omega : w.heap.size ≤ w.heap.size + 1 + 1) hO hS' hB
  exact bodyPost_ret (v := .agg #[.string ((⟨x.p ++ strOf [b], x.c, x.l, x.r, x.f, x.t⟩ : Rule)).p, .slice A ((⟨x.p ++ strOf [b], x.c, x.l, x.r, x.f, x.t⟩ : Rule)).c.length k, .int .u8 ((⟨x.p ++ strOf [b], x.c, x.l, x.r, x.f, x.t⟩ : Rule)).l, .int .u8 ((⟨x.p ++ strOf [b], x.c, x.l, x.r, x.f, x.t⟩ : Rule)).r, .int .i64 ((⟨x.p ++ strOf [b], x.c, x.l, x.r, x.f, x.t⟩ : Rule)).f, .int .i64 ((⟨x.p ++ strOf [b], x.c, x.l, x.r, x.f, x.t⟩ : Rule)).t]) (by simp [results, Tryd.results21, go_sem, zr0, zr1, zr2, zr3, zr4, zr5]) rfl ⟨_, (⟨x.p ++ strOf [b], x.c, x.l, x.r, x.f, x.t⟩ : Rule), rfl, ⟨_, _, rfl, SeqC.mk_ e1 hk⟩, ⟨by show ByteArray.size _ < _; rw [ByteArray.size_append, strOf_size]; show x.p.size + 1 < _; omega, HX.out.2⟩, e2⟩

section
variable {ops : Array Oper}
/-- append of some cells onto an empty literal: a new row. -/
theorem wpOp_append_fresh {i : Nat} {o : Oper} {a : Act} {w : World} {K : Act → World → Prop} {Q : Exit → Act → World → Prop} (hi : ops[i]? = some o) (hgd : o.guard = none) (s x : Operand)
    (ho : o.op = .call { callee := .builtin .append, args := #[s, x], argTypes := #[34, 34] })
    (g0 : Nat) (cs : List Int) (ad : Addr) (c : Nat) (hs : a.eval s = .slice (some ⟨g0, 0, none⟩) 0 0) (hx : a.eval x = .slice (some ad) cs.length c)
    (hnews : ∀ j u, (cs.map (Value.int .u8))[j]? = some u → w.cell? (ad.add j) = some u) (h0 : 0 < cs.length) (hl : cs.length ≤ 1000)
    (h : ∀ v w', w'.ownsRow w.heap.size 50 1 v cs.length (cs.map (Value.int .u8)) → Below w.heap.size w w' → K (a.put o.dst v) w') : wpOp Tryd.prog ops Q i K a w := by
  obtain ⟨i0, hi0, hz0, hz1, hz2⟩ := info_parts info_cell
  have hr := run_append_grow (P := Tryd.prog) w 34 o.type 50 i0 (.int .u8 0) Tryd.underlying34 hi0 hz0 ⟨g0, 0, none⟩ 0 0 [] (by simp) (fun j u hu => by simp at hu) ad cs.length c (cs.map (Value.int .u8)) (by rw [hz1]; simp) hnews (by omega) (by omega) (growslice_fits (by omega) (by rw [hz2]; omega))
  refine wpOp_step hi fun K2 hK2 => ?_
  have hw : Region.wanted o (yielded ops a.tmps) = true := by simp [Region.wanted, hgd]
  rw [if_pos hw]
  unfold Oper.wp execOp
  simp only [ho, resolve, invoke, builtin, Sem.run_bind, Sem.run_pure, Result.andThen_ok, List.map_toArray, List.map_cons, List.map_nil, hs, hx, hr]
  refine hK2 _ _ (h _ _ ?_ ?_)
  · have hge := grownCap_ge w (0 + cs.length) 0 50
    have hcm : grownCap w (0 + cs.length) 0 50 ≤ maxLen := grownCap_le_maxLen w (0 + cs.length) 0 50 (by unfold maxLen; omega)
    simp only [Nat.zero_add] at hge hcm ⊢
    refine ⟨by simp, .inr ⟨w.heap.size, _, _, rfl, Nat.le_refl _, heap_alloc_new w.drew _, hge, hcm, ?_, ?_⟩⟩
    · simp only [Array.size_append, List.size_toArray, size_zeroCells, List.length_nil, List.length_map, Value.cells]
      simp only [List.length_cons, List.length_nil]
      omega
    · simp
  · exact (Below.refl _ _).drew.alloc (Nat.le_refl _) _
end
def phiSp (V : World) (q : Nat) (x : Rule) (b : Int) (b0 o0 k : Nat) (i : Nat) (v : Value) (w' : World) : Prop := match i with
  | 0 => ∃ g0, v = .slice (some ⟨g0, 0, none⟩) 0 0
  | 1 => v = .pointer (some ⟨q, 1, none⟩)
  | 2 => v = .slice (some ⟨b0, o0, none⟩) x.c.length k
  | 3 => w'.ownsRow V.heap.size 50 1 v x.c.length (x.c.map (Value.int .u8))
  | 4 => v = .pointer (some ⟨q + 1, 2, none⟩)
  | 5 => v = .int .u8 b
  | 6 => ∃ g6, v = .slice (some ⟨g6, 0, none⟩) 1 1 ∧ Blk w' g6 50 [Value.int .u8 b].toArray
  | _ => True
set_option maxRecDepth 10000 in
set_option maxHeartbeats 2000000 in
theorem spoilt2_any (w : World) (lo : Nat) (A : Option Addr) (k : Nat) (x : Rule) (at_ wh b nn : Int) (hS : SeqT w lo A x.c) (hp : x.p.size ≤ 4) (hc : 1 ≤ x.c.length ∧ x.c.length ≤ 4) (hk : x.c.length ≤ k) (hx : x.fits) (hf : 0 ≤ x.f ∧ x.f < 8) (ht : 0 ≤ x.t ∧ x.t < 8) (hlo : lo ≤ w.heap.size)
    (hw : 0 ≤ wh ∧ wh < 256) (hb : 0 ≤ b ∧ b < 256) (hn : -128 ≤ nn ∧ nn ≤ 127) (h8 : wh % 8 = 2) :
    Calls Tryd.prog 21 #[.agg #[.string x.p, .slice A x.c.length k, .int .u8 x.l, .int .u8 x.r, .int .i64 x.f, .int .i64 x.t], .agg #[.int .u8 at_, .int .u8 wh, .int .u8 b, .int .i8 nn]] w (SpoiltEnd lo w) := by
  have HS := Lib.hid hS
  have HX := Lib.hid hx
  have hu := And.intro hp (And.intro hc (And.intro hk (And.intro hf (And.intro ht (And.intro hlo (And.intro hb (And.intro hn hw)))))))
  clear hu hS hx
  go_enter Tryd.func21, Tryd.ntmps21
  have PS := Lib.hid (preS_of w A k x at_ wh b nn)
  go_upto_region 1 with fail
  generalize (((w.alloc (.cells #[.string x.p, .slice A x.c.length k, .int .u8 x.l, .int .u8 x.r, .int .i64 x.f, .int .i64 x.t] 36)).alloc (.cells #[.int .u8 at_, .int .u8 wh, .int .u8 b, .int .i8 nn] 44)).alloc (.cells #[.string ⟨#[]⟩, .slice none 0 0, .int .u8 0, .int .u8 0, .int .i64 0, .int .i64 0] 36)) = V at *
  have s1 := PS.out.2.1.cell 1
  have s2 := PS.out.2.1.cell 2
  have s3 := PS.out.2.1.cell 3
  have x0 := PS.out.1.cell 0
  have x1 := PS.out.1.cell 1
  have x2 := PS.out.1.cell 2
  have x3 := PS.out.1.cell 3
  have x4 := PS.out.1.cell 4
  have x5 := PS.out.1.cell 5
  have f0 := PS.out.1.free 0
  have f1 := PS.out.1.free 1
  have f2 := PS.out.1.free 2
  have f3 := PS.out.1.free 3
  have f4 := PS.out.1.free 4
  have f5 := PS.out.1.free 5
  have r0 := PS.out.2.2.1.cell 0
  have r1 := PS.out.2.2.1.cell 1
  have r2 := PS.out.2.2.1.cell 2
  have r3 := PS.out.2.2.1.cell 3
  have r4 := PS.out.2.2.1.cell 4
  have r5 := PS.out.2.2.1.cell 5
  have q0 := PS.out.2.2.1.free 0
  have q1 := PS.out.2.2.1.free 1
  have q2 := PS.out.2.2.1.free 2
  have q3 := PS.out.2.2.1.free 3
  have q4 := PS.out.2.2.1.free 4
  have q5 := PS.out.2.2.1.free 5
  simp only [List.getElem?_toArray, List.getElem?_cons_zero, List.getElem?_cons_succ] at s1 s2 s3 x0 x1 x2 x3 x4 x5 r0 r1 r2 r3 r4 r5
  have HSV := Lib.hid (HS.out.below PS.out.2.2.2.1)
  have hVs : V.heap.size = w.heap.size + 3 := PS.out.2.2.2.2
  obtain ⟨b0, o0, rfl, hlo0, ⟨cur0, hB0⟩, hcell0⟩ := HSV.out (by omega)
  have hb0 := Blk.lt hB0
  have hcc : ∀ W : World, Below V.heap.size V W → ∀ j u, (x.c.map (Value.int .u8))[j]? = some u → W.cell? ((⟨b0, o0, none⟩ : Addr).add j) = some u := by
    intro W hW j u hu
    rw [List.getElem?_map] at hu
    obtain ⟨z, hz, rfl⟩ := Option.map_eq_some_iff.1 hu
    obtain ⟨hj, hz⟩ := List.getElem?_eq_some_iff.1 hz
    rw [plain_add]
    refine (hW.cell (p := ⟨b0, o0 + j, none⟩) hb0).trans ?_
    rw [hcell0 j hj, hz]
  have HCC := Lib.hid hcc
  clear hcc hcell0 hB0
  go_upto_region 8 with fail
  simp only [h8]
  clear h8
  refine wp_region_head 7 2 (by kernel_rfl) (fun y => .agg #[.string x.p, .slice (some ⟨b0, o0, none⟩) x.c.length k, .int .u8 x.l, .int .u8 x.r, .int .i64 x.f, .int .i64 x.t] :: .agg #[.int .u8 at_, .int .u8 wh, .int .u8 b, .int .i8 nn] :: .pointer (some ⟨w.heap.size, 0, none⟩) :: .pointer (some ⟨w.heap.size + 1, 0, none⟩) :: .pointer (some ⟨w.heap.size + 1 + 1, 0, none⟩) :: .pointer (some ⟨w.heap.size + 1, 1, none⟩) :: .int .u8 wh :: .int .u8 2 :: undef :: undef :: undef :: undef :: undef :: undef :: undef :: .bool false :: .bool false :: undef :: undef :: undef :: undef :: undef :: undef :: undef :: undef :: .bool false :: .bool false :: undef :: undef :: undef :: undef :: undef :: .bool true :: .bool true :: y 0 :: y 1 :: y 2 :: y 3 :: y 4 :: y 5 :: y 6 :: undef :: undef :: undef :: undef :: undef :: undef :: undef :: undef :: undef :: undef :: undef :: undef :: undef :: undef :: undef :: undef :: undef :: undef :: undef :: undef :: undef :: undef :: undef :: undef :: undef :: undef :: undef :: undef :: undef :: undef :: undef :: undef :: [])
    (fun _ w' => Below V.heap.size V w') (phiSp V w.heap.size x b b0 o0 k) (fun _ => undef)
    (by kernel_rfl) (by kernel_rfl) (by kernel_rfl) (by kernel_rfl) ?_ (Below.refl _ _).drew [0, 1, 2, 3, 4, 5, 6] (by kernel_rfl) ?_ ?_
  · intro i v w1 w2 h hb
    unfold phiSp at h ⊢
    split at h <;> first | exact h | exact own_keep h hb | (obtain ⟨g6, e6, hB6⟩ := h; exact ⟨g6, e6, hB6.keep hb (Blk.lt hB6)⟩)
  · refine allCons ?_ (allCons ?_ (allCons ?_ (allCons ?_ (allCons ?_ (allCons ?_ (allCons ?_ allNil))))))
    all_goals intro y w2 K hS hd hK
    · refine wpOp_step rfl (fun K2 hK2 => ?_)
      go_simp
      exact hK2 _ _ (hK _ _ (hS.alloc hS.size _) ⟨_, rfl⟩ ((Below.refl _ _).alloc (Nat.le_refl _) _))
    · refine wpOp_step rfl (fun K2 hK2 => ?_)
      go_simp
      exact hK2 _ _ (hK _ _ hS rfl (Below.refl _ _))
    · have e1 : y 1 = _ := hd 1 rfl
      obtain ⟨y, rfl⟩ := upd_at (y := y) (i := 1) e1
      dsimp [upd]
      have c := (hS.cell (p := ⟨w.heap.size, 1, none⟩) (by show w.heap.size < _; omega)).trans x1
      refine wpOp_step rfl (fun K2 hK2 => ?_)
      go_simp
      exact hK2 _ _ (hK _ _ hS rfl (Below.refl _ _))
    · obtain ⟨g0, e0⟩ := hd 0 rfl
      have e2 : y 2 = _ := hd 2 rfl
      refine wpOp_append_fresh rfl rfl _ _ rfl g0 x.c ⟨b0, o0, none⟩ k e0 e2 (HCC.out _ hS) (by omega) (by omega) ?_
      intro v w3 h3 hb3
      refine hK _ _ (below_next hS hb3) (World.ownsRow.mono h3 hS.size) hb3
    · refine wpOp_step rfl (fun K2 hK2 => ?_)
      go_simp
      exact hK2 _ _ (hK _ _ hS rfl (Below.refl _ _))
    · have e4 : y 4 = _ := hd 4 rfl
      obtain ⟨y, rfl⟩ := upd_at (y := y) (i := 4) e4
      dsimp [upd]
      have c := (hS.cell (p := ⟨w.heap.size + 1, 2, none⟩) (by show w.heap.size + 1 < _; omega)).trans s2
      refine wpOp_step rfl (fun K2 hK2 => ?_)
      go_simp
      exact hK2 _ _ (hK _ _ hS rfl (Below.refl _ _))
    · have e5 : y 5 = _ := hd 5 rfl
      obtain ⟨y, rfl⟩ := upd_at (y := y) (i := 5) e5
      dsimp [upd]
      refine wpOp_step rfl (fun K2 hK2 => ?_)
      go_simp
      exact hK2 _ _ (hK _ _ (hS.alloc hS.size _) ⟨_, rfl, Blk.new _ _ _⟩ ((Below.refl _ _).alloc (Nat.le_refl _) _))
  · intro y w2 f hS hd
    have h3 : w2.ownsRow V.heap.size 50 1 (y 3) x.c.length (x.c.map (Value.int .u8)) := hd 3 (by decide)
    obtain ⟨g6, e6, hB6⟩ := hd 6 (by decide)
    clear hd
    obtain ⟨i0, hi, hy0, hy1, hy2⟩ := info_parts info_cell
    refine wpAny_one (i := 7) (by kernel_rfl) ?_
    refine wpOp_step rfl (fun K2 hK2 => ?_)
    refine step_append_own rfl (.tmp 37) (.tmp 40) 34 rfl V.heap.size 50 i0 (.int .u8 0) 1 1 Tryd.underlying34 hi hy0 hy1 hy2 rfl (by decide) (y 3) x.c.length (x.c.map (Value.int .u8)) rfl h3 ⟨g6, 0, none⟩ 1 1 [.int .u8 b] e6 rfl (cell_of_blk hB6) (ints_oneCell .u8 [b]) (by unfold maxLen; omega) (by omega) hS.size ?_
    intro v' w3 h4 hgr
    have hS3 : Below V.heap.size V w3 := hS.grown hgr hS.size (fun j hj => (h3.lt j hj).1)
    obtain ⟨A9, k9, rfl⟩ := own_form h4
    have hBr := Lib.hid (PS.out.1.keep hS3 (by omega))
    have hBz := Lib.hid (PS.out.2.2.1.keep hS3 (by omega))
    have c1 := hBr.out.cell 1
    have c2 := hBr.out.free 1
    simp only [List.getElem?_toArray, List.getElem?_cons_zero, List.getElem?_cons_succ] at c1
    refine hK2 _ _ ?_
    clear hK2 K2
    refine wpAny_one (i := 8) (by kernel_rfl) ?_
    refine wpOp_step rfl (fun K2 hK2 => ?_)
    go_simp
    refine hK2 _ _ ?_
    clear hK2 K2
    refine wpAny_one (i := 9) (by kernel_rfl) ?_
    refine wpOp_step rfl (fun K2 hK2 => ?_)
    go_simp
    refine hK2 _ _ ?_
    clear hK2 K2
    refine wpAny_done (by kernel_rfl) ?_ _
    have H4 := Lib.hid h4
    have HS3 := Lib.hid hS3
    clear h4 hgr hS3 h3 hB6 hS e6
    have hRr : Hid (Blk (w3.setCell ⟨w.heap.size, 1, none⟩ (.slice A9 (x.c.length + 1) k9)) w.heap.size 36 #[.string x.p, .slice A9 (x.c.length + 1) k9, .int .u8 x.l, .int .u8 x.r, .int .i64 x.f, .int .i64 x.t]) := hBr.out.set 1 _
    have hRz : Hid (Blk (w3.setCell ⟨w.heap.size, 1, none⟩ (.slice A9 (x.c.length + 1) k9)) (w.heap.size + 1 + 1) 36 #[.string ⟨#[]⟩, .slice none 0 0, .int .u8 0, .int .u8 0, .int .i64 0, .int .i64 0]) := (Below.heap_setCell _ _ _ _ (by show w.heap.size + 1 + 1 ≠ w.heap.size; omega)).trans hBz.out
    have hRS : SeqT (w3.setCell ⟨w.heap.size, 1, none⟩ (.slice A9 (x.c.length + 1) k9)) lo A9 (x.c ++ [b]) := by
      have h5 : w3.ownsRow V.heap.size 50 1 (.slice A9 (x.c.length + 1) k9) (x.c.length + 1) ((x.c ++ [b]).map (Value.int .u8)) := by rw [List.map_append]; exact H4.out
      exact ((own_seqT h5).less (by omega)).set hBr.out (by decide) _
    have hcap2 : (x.c ++ [b]).length ≤ k9 := (own_seqC (xs := x.c ++ [b]) (lo := V.heap.size) (w := w3) (A := A9) (n := x.c.length + 1) (by rw [List.map_append]; exact H4.out)).2
    have hRB : Below w.heap.size w (w3.setCell ⟨w.heap.size, 1, none⟩ (.slice A9 (x.c.length + 1) k9)) := (PS.out.2.2.2.1.trans (HS3.out.mono (by omega))).setCell (Nat.le_refl _) _
    generalize w3.setCell ⟨w.heap.size, 1, none⟩ (.slice A9 (x.c.length + 1) k9) = W at *
    clear x0 x1 x2 x3 x4 x5 f0 f1 f2 f3 f4 f5 r0 r1 r2 r3 r4 r5 q0 q1 q2 q3 q4 q5 c1 c2
    have x0 := hRr.out.cell 0
    have r0 := hRz.out.cell 0
    have q0 := hRz.out.free 0
    have x1 := hRr.out.cell 1
    have r1 := hRz.out.cell 1
    have q1 := hRz.out.free 1
    have x2 := hRr.out.cell 2
    have r2 := hRz.out.cell 2
    have q2 := hRz.out.free 2
    have x3 := hRr.out.cell 3
    have r3 := hRz.out.cell 3
    have q3 := hRz.out.free 3
    have x4 := hRr.out.cell 4
    have r4 := hRz.out.cell 4
    have q4 := hRz.out.free 4
    have x5 := hRr.out.cell 5
    have r5 := hRz.out.cell 5
    have q5 := hRz.out.free 5
    simp only [List.getElem?_toArray, List.getElem?_cons_zero, List.getElem?_cons_succ] at x0 x1 x2 x3 x4 x5 r0 r1 r2 r3 r4 r5
    have hl : (x.c ++ [b]).length = x.c.length + 1 := by simp
    go_wp2_with fail
    obtain ⟨e1, e2⟩ := spoilt_end (y := ⟨x.p, x.c ++ [b], x.l, x.r, x.f, x.t⟩) (A := A9) (k := k9) (by omega : w.heap.size ≤ w.heap.size + 1 + 1) hRz.out hRS hRB
    simp only [hl] at e1 e2
    refine bodyPost_ret (v := .agg #[.string x.p, .slice A9 (x.c ++ [b]).length k9, .int .u8 x.l, .int .u8 x.r, .int .i64 x.f, .int .i64 x.t]) (by simp [results, Tryd.results21, go_sem, r0, r1, r2, r3, r4, r5]) rfl ⟨_, ⟨x.p, x.c ++ [b], x.l, x.r, x.f, x.t⟩, rfl, ⟨_, _, rfl, SeqC.mk_ e1 hcap2⟩, ⟨HX.out.1, by show (x.c ++ [b]).length < _; rw [hl]; omega, ?_, HX.out.2.2.2⟩, e2⟩
    intro z hz
    rcases List.mem_append.1 hz with h | h
    · exact HX.out.2.2.1 z h
    · rw [List.mem_singleton.1 h]; exact hb
theorem SeqT.take {w : World} {lo n : Nat} {A : Option Addr} {xs : List Int} (h : SeqT w lo A xs) (h0 : 0 < xs.length) : SeqT w lo A (xs.take n) := fun _ => by
  obtain ⟨b, o, e, hb, hB, hc⟩ := h h0
  refine ⟨b, o, e, hb, hB, fun j hj => ?_⟩
  rw [List.getElem_take]
  exact hc j _
set_option maxRecDepth 10000 in
set_option maxHeartbeats 2000000 in
theorem spoilt3_any (w : World) (lo : Nat) (A : Option Addr) (k : Nat) (x : Rule) (at_ wh b nn : Int) (hS : SeqT w lo A x.c) (hp : x.p.size ≤ 4) (hc : 1 ≤ x.c.length ∧ x.c.length ≤ 4) (hk : x.c.length ≤ k) (hx : x.fits) (hf : 0 ≤ x.f ∧ x.f < 8) (ht : 0 ≤ x.t ∧ x.t < 8) (hlo : lo ≤ w.heap.size)
    (hw : 0 ≤ wh ∧ wh < 256) (hb : 0 ≤ b ∧ b < 256) (hn : -128 ≤ nn ∧ nn ≤ 127) (h8 : wh % 8 = 3) :
    Calls Tryd.prog 21 #[.agg #[.string x.p, .slice A x.c.length k, .int .u8 x.l, .int .u8 x.r, .int .i64 x.f, .int .i64 x.t], .agg #[.int .u8 at_, .int .u8 wh, .int .u8 b, .int .i8 nn]] w (SpoiltEnd lo w) := by
  have HS := Lib.hid hS
  have HX := Lib.hid hx
  have hu := And.intro hp (And.intro hc (And.intro hk (And.intro hf (And.intro ht (And.intro hlo (And.intro hb (And.intro hn hw)))))))
  clear hu hS hx
  go_enter Tryd.func21, Tryd.ntmps21
  have PS := Lib.hid (preS_of w A k x at_ wh b nn)
  go_upto_region 1 with fail
  generalize (((w.alloc (.cells #[.string x.p, .slice A x.c.length k, .int .u8 x.l, .int .u8 x.r, .int .i64 x.f, .int .i64 x.t] 36)).alloc (.cells #[.int .u8 at_, .int .u8 wh, .int .u8 b, .int .i8 nn] 44)).alloc (.cells #[.string ⟨#[]⟩, .slice none 0 0, .int .u8 0, .int .u8 0, .int .i64 0, .int .i64 0] 36)) = V at *
  have s1 := PS.out.2.1.cell 1
  have s2 := PS.out.2.1.cell 2
  have s3 := PS.out.2.1.cell 3
  have x0 := PS.out.1.cell 0
  have x1 := PS.out.1.cell 1
  have x2 := PS.out.1.cell 2
  have x3 := PS.out.1.cell 3
  have x4 := PS.out.1.cell 4
  have x5 := PS.out.1.cell 5
  have f0 := PS.out.1.free 0
  have f1 := PS.out.1.free 1
  have f2 := PS.out.1.free 2
  have f3 := PS.out.1.free 3
  have f4 := PS.out.1.free 4
  have f5 := PS.out.1.free 5
  have r0 := PS.out.2.2.1.cell 0
  have r1 := PS.out.2.2.1.cell 1
  have r2 := PS.out.2.2.1.cell 2
  have r3 := PS.out.2.2.1.cell 3
  have r4 := PS.out.2.2.1.cell 4
  have r5 := PS.out.2.2.1.cell 5
  have q0 := PS.out.2.2.1.free 0
  have q1 := PS.out.2.2.1.free 1
  have q2 := PS.out.2.2.1.free 2
  have q3 := PS.out.2.2.1.free 3
  have q4 := PS.out.2.2.1.free 4
  have q5 := PS.out.2.2.1.free 5
  simp only [List.getElem?_toArray, List.getElem?_cons_zero, List.getElem?_cons_succ] at s1 s2 s3 x0 x1 x2 x3 x4 x5 r0 r1 r2 r3 r4 r5
  have HSV := Lib.hid (HS.out.below PS.out.2.2.2.1)
  obtain ⟨n1, hn1⟩ : ∃ n1, x.c.length = n1 + 1 := ⟨x.c.length - 1, by omega⟩
  have hl1 : (x.c.take n1).length = n1 := by simp; omega
  obtain ⟨b0, o0, rfl, _⟩ := HS.out (by omega)
  have hp0 : (0 : Int) ≤ (n1 : Int) + 1 - 1 := by omega
  have hp1 : (n1 : Int) + 1 - 1 ≤ (k : Int) := by omega
  have hp2 : (n1 : Int) + 1 - 1 = (n1 : Int) := by omega
  have hp3 : (n1 : Int) ≤ (k : Int) := by omega
  go_wp2_with fail
  have hO : Blk (V.setCell ⟨w.heap.size, 1, none⟩ (.slice (some ⟨b0, o0, none⟩) n1 k)) (w.heap.size + 1 + 1) 36 #[.string ⟨#[]⟩, .slice none 0 0, .int .u8 0, .int .u8 0, .int .i64 0, .int .i64 0] := (Below.heap_setCell _ _ _ _ (by show w.heap.size + 1 + 1 ≠ w.heap.size; omega)).trans PS.out.2.2.1
  have hS' : SeqT (V.setCell ⟨w.heap.size, 1, none⟩ (.slice (some ⟨b0, o0, none⟩) n1 k)) lo (some ⟨b0, o0, none⟩) (⟨x.p, x.c.take n1, x.l, x.r, x.f, x.t⟩ : Rule).c := (HSV.out.take (by omega)).set PS.out.1 (by decide) _
  have hB : Below w.heap.size w (V.setCell ⟨w.heap.size, 1, none⟩ (.slice (some ⟨b0, o0, none⟩) n1 k)) := PS.out.2.2.2.1.setCell (Nat.le_refl _) _
  obtain ⟨e1, e2⟩ := spoilt_end (y := (⟨x.p, x.c.take n1, x.l, x.r, x.f, x.t⟩ : Rule)) (A := some ⟨b0, o0, none⟩) (k := k) (by omega : w.heap.size ≤ w.heap.size + 1 + 1) hO hS' hB
  simp only [hl1] at e1 e2
  exact bodyPost_ret (v := .agg #[.string ((⟨x.p, x.c.take n1, x.l, x.r, x.f, x.t⟩ : Rule)).p, .slice (some ⟨b0, o0, none⟩) (x.c.take n1).length k, .int .u8 ((⟨x.p, x.c.take n1, x.l, x.r, x.f, x.t⟩ : Rule)).l, .int .u8 ((⟨x.p, x.c.take n1, x.l, x.r, x.f, x.t⟩ : Rule)).r, .int .i64 ((⟨x.p, x.c.take n1, x.l, x.r, x.f, x.t⟩ : Rule)).f, .int .i64 ((⟨x.p, x.c.take n1, x.l, x.r, x.f, x.t⟩ : Rule)).t]) (by simp [results, Tryd.results21, go_sem, r0, r1, r2, r3, r4, r5, hl1]) rfl ⟨_, (⟨x.p, x.c.take n1, x.l, x.r, x.f, x.t⟩ : Rule), rfl, ⟨_, _, rfl, SeqC.mk_ e1 (by show (x.c.take n1).length ≤ k; rw [hl1]; omega)⟩, ⟨HX.out.1, by show (x.c.take n1).length < _; rw [hl1]; omega, fun z hz => HX.out.2.2.1 z (List.mem_of_mem_take hz), HX.out.2.2.2⟩, e2⟩

/-- A spoilt rule is a rule, of the same size but one. -/
theorem spoilt_any (w : World) (lo : Nat) (A : Option Addr) (k : Nat) (x : Rule) (at_ wh b nn : Int) (hS : SeqT w lo A x.c) (hp : x.p.size ≤ 4) (hc : 1 ≤ x.c.length ∧ x.c.length ≤ 4) (hk : x.c.length ≤ k) (hx : x.fits) (hf : 0 ≤ x.f ∧ x.f < 8) (ht : 0 ≤ x.t ∧ x.t < 8) (hlo : lo ≤ w.heap.size)
    (hw : 0 ≤ wh ∧ wh < 256) (hb : 0 ≤ b ∧ b < 256) (hn : -128 ≤ nn ∧ nn ≤ 127) :
    Calls Tryd.prog 21 #[.agg #[.string x.p, .slice A x.c.length k, .int .u8 x.l, .int .u8 x.r, .int .i64 x.f, .int .i64 x.t], .agg #[.int .u8 at_, .int .u8 wh, .int .u8 b, .int .i8 nn]] w (SpoiltEnd lo w) := by
  rcases (by omega : wh % 8 = 0 ∨ wh % 8 = 1 ∨ wh % 8 = 2 ∨ wh % 8 = 3 ∨ wh % 8 = 4 ∨ wh % 8 = 5 ∨ wh % 8 = 6 ∨ wh % 8 = 7) with h | h | h | h | h | h | h | h
  · exact spoilt0_any w lo A k x at_ wh b nn hS hp hc hk hx hf ht hlo hw hb hn h
  · exact spoilt1_any w lo A k x at_ wh b nn hS hp hc hk hx hf ht hlo hw hb hn h
  · exact spoilt2_any w lo A k x at_ wh b nn hS hp hc hk hx hf ht hlo hw hb hn h
  · exact spoilt3_any w lo A k x at_ wh b nn hS hp hc hk hx hf ht hlo hw hb hn h
  · exact spoilt4_any w lo A k x at_ wh b nn hS hp hc hk hx hf ht hlo hw hb hn h
  · exact spoilt5_any w lo A k x at_ wh b nn hS hp hc hk hx hf ht hlo hw hb hn h
  · exact spoilt6_any w lo A k x at_ wh b nn hS hp hc hk hx hf ht hlo hw hb hn h
  · exact spoilt7_any w lo A k x at_ wh b nn hS hp hc hk hx hf ht hlo hw hb hn h
end Go.Proofs.YtjcknfaopmpocaaDoor
