/- Package table: a rule, read. -/
import Derived.Test.YtiedaongfjcbhabGreatDoorPar4
namespace Go.Proofs.YtiedaongfjcbhabGreatDoor
open Go.RowKit

def Fds.r1 (s : Fds) : Fds := s.numS 999
def Fds.r2 (s : Fds) : Fds := s.r1.numS 999
def Fds.r3 (s : Fds) : Fds := s.r2.numS 255
def Fds.r4 (s : Fds) : Fds := s.r3.numS 255
def Fds.r5 (s : Fds) : Fds := s.r4.csS
def Fds.r6 (s : Fds) : Fds := s.r5.prS
def Fds.ru (s : Fds) : Rule := ⟨strOf s.r5.prL, s.r4.csL, s.r2.num 255, s.r3.num 255, s.num 999, s.r1.num 999⟩
theorem gb_setNew {w a : World} {g q i : Nat} (v : Value) (h : w.grownBy a (some g)) (hq : w.heap.size ≤ q) : w.grownBy (a.setCell ⟨q, i, none⟩ v) (some g) :=
  ⟨h.os, h.tape, h.output, by simpa using h.size, fun k hk hr => (Below.heap_setCell a ⟨q, i, none⟩ v k (fun e => by simp at e; omega)).trans (h.block k hk hr)⟩
theorem at_set {s : Fds} {a : World} {g q i : Nat} (v : Value) (h : s.at_ a g) (hq : g ≠ q) : s.at_ (a.setCell ⟨q, i, none⟩ v) g :=
  (Below.heap_setCell a ⟨q, i, none⟩ v g (fun e => hq e)).trans h
theorem gb_allocR {w a : World} {g : Nat} (o : Obj) (h : w.grownBy a (some g)) : w.grownBy (a.alloc o) (some g) := gb_trans h (World.grownBy_alloc a o _)
theorem rl1 (s : Fds) : s.r1.rest.length ≤ s.rest.length := numS_len s 999
theorem rl2 (s : Fds) : s.r2.rest.length ≤ s.rest.length := Nat.le_trans (numS_len s.r1 999) (rl1 s)
theorem rl3 (s : Fds) : s.r3.rest.length ≤ s.rest.length := Nat.le_trans (numS_len s.r2 255) (rl2 s)
theorem rl4 (s : Fds) : s.r4.rest.length ≤ s.rest.length := Nat.le_trans (numS_len s.r3 255) (rl3 s)
theorem rl5 (s : Fds) : s.r5.rest.length ≤ s.rest.length := Nat.le_trans (restL_len 32 s.r4.rest).1 (rl4 s)
theorem csL_bd (s : Fds) : ∀ z ∈ s.csL, 0 ≤ z ∧ z < 64 := by
  unfold Fds.csL
  cases h : s.cs with
  | none => intro z hz; simp at hz
  | some xs => exact cellsG_bd _ _ _ _ h (fun z hz => by simp at hz)
theorem csL_len (s : Fds) : s.csL.length ≤ s.word.length + 1 := by
  unfold Fds.csL
  cases h : s.cs with
  | none => simp
  | some xs => have := cellsG_len _ _ _ _ h; simp at this; simpa using this
theorem prL_len (s : Fds) : s.prL.length ≤ s.word.length := by
  unfold Fds.prL prOf
  split
  · simp
  · split
    · simp
    · split
      · simp
      · split
        · simp; omega
        · simp
theorem ru_fits (s : Fds) (hmax : s.rest.length < 2 ^ 40) : s.ru.fits := by
  have h1 := num_bd s.r2 255 (by omega)
  have h2 := num_bd s.r3 255 (by omega)
  have h3 := num_bd s 999 (by omega)
  have h4 := num_bd s.r1 999 (by omega)
  have h5 := csL_len s.r4
  have h6 := (restL_len 32 s.r4.rest).2
  have h7 := rl4 s
  have h8 := prL_len s.r5
  have h9 := (restL_len 32 s.r5.rest).2
  have h10 := rl5 s
  refine ⟨?_, ?_, fun z hz => ?_, ⟨h1.1, by show s.r2.num 255 < 256; omega⟩, ⟨h2.1, by show s.r3.num 255 < 256; omega⟩, ⟨by show _ ≤ s.num 999; omega, by show s.num 999 ≤ _; omega⟩, ⟨by show _ ≤ s.r1.num 999; omega, by show s.r1.num 999 ≤ _; omega⟩⟩
  · show (strOf s.r5.prL).size < _; rw [strOf_size]; unfold Fds.word at h8; omega
  · show s.r4.csL.length < _; unfold Fds.word at h5; omega
  · have := csL_bd s.r4 z hz; omega
def RuleEnd (s : Fds) (g : Nat) (w : World) (e : Ending) (w' : World) : Prop :=
  ∃ A k, e = .returned (.agg #[.string s.ru.p, .slice A s.ru.c.length k, .int .u8 s.ru.l, .int .u8 s.ru.r, .int .i64 s.ru.f, .int .i64 s.ru.t]) ∧ SeqT w' w.heap.size A s.ru.c ∧ s.r6.at_ w' g ∧ w.grownBy w' (some g)
set_option maxRecDepth 10000 in
set_option maxHeartbeats 2000000 in
theorem ruleF_any (g : Nat) (s : Fds) (w : World) (h : s.at_ w g) (hmax : s.rest.length < 2 ^ 40) (hgv : LaidG w g) :
    Calls Tryz.prog 23 #[.pointer (some ⟨g, 0, none⟩)] w (RuleEnd s g w) := by
  have hg0 := Blk.lt h
  have HR := Lib.hid (And.intro (rl1 s) (And.intro (rl2 s) (And.intro (rl3 s) (And.intro (rl4 s) (rl5 s)))))
  have b1 := num_bd s.r2 255 (by omega)
  have b2 := num_bd s.r3 255 (by omega)
  have HGV := Lib.hid hgv
  have HH := Lib.hid h
  clear h hgv
  go_enter Tryz.func23, Tryz.ntmps23
  go_wp2_with fail
  have hP0 : Hid (Blk ((w.alloc (.cells #[.string ⟨#[]⟩, .slice none 0 0, .int .u8 0, .int .u8 0, .int .i64 0, .int .i64 0] 43)).alloc (.cells #[.string ⟨#[]⟩, .slice none 0 0, .int .u8 0, .int .u8 0, .int .i64 0, .int .i64 0] 43)) w.heap.size 43 #[.string ⟨#[]⟩, .slice none 0 0, .int .u8 0, .int .u8 0, .int .i64 0, .int .i64 0]) := heap_alloc2_old _ _ _
  have hQ0 : Hid (Blk ((w.alloc (.cells #[.string ⟨#[]⟩, .slice none 0 0, .int .u8 0, .int .u8 0, .int .i64 0, .int .i64 0] 43)).alloc (.cells #[.string ⟨#[]⟩, .slice none 0 0, .int .u8 0, .int .u8 0, .int .i64 0, .int .i64 0] 43)) (w.heap.size + 1) 43 #[.string ⟨#[]⟩, .slice none 0 0, .int .u8 0, .int .u8 0, .int .i64 0, .int .i64 0]) := heap_alloc2_new _ _ _
  have G0 : Hid (w.grownBy ((w.alloc (.cells #[.string ⟨#[]⟩, .slice none 0 0, .int .u8 0, .int .u8 0, .int .i64 0, .int .i64 0] 43)).alloc (.cells #[.string ⟨#[]⟩, .slice none 0 0, .int .u8 0, .int .u8 0, .int .i64 0, .int .i64 0] 43)) (some g)) := gb_allocR _ (gb_allocR _ (World.grownBy.refl _ _))
  have B0 : Hid (s.at_ ((w.alloc (.cells #[.string ⟨#[]⟩, .slice none 0 0, .int .u8 0, .int .u8 0, .int .i64 0, .int .i64 0] 43)).alloc (.cells #[.string ⟨#[]⟩, .slice none 0 0, .int .u8 0, .int .u8 0, .int .i64 0, .int .i64 0] 43)) g) := (Below.heap_alloc _ _ g (by simp; omega)).trans ((Below.heap_alloc _ _ g hg0).trans HH.out)
  generalize (w.alloc (.cells #[.string ⟨#[]⟩, .slice none 0 0, .int .u8 0, .int .u8 0, .int .i64 0, .int .i64 0] 43)).alloc (.cells #[.string ⟨#[]⟩, .slice none 0 0, .int .u8 0, .int .u8 0, .int .i64 0, .int .i64 0] 43) = V0 at *
  obtain ⟨p, hp⟩ : ∃ p, w.heap.size = p := ⟨_, rfl⟩
  obtain ⟨q, hq⟩ : ∃ q, p + 1 = q := ⟨_, rfl⟩
  rw [hp] at hP0
  rw [hp, hq] at hQ0
  simp only [hp, hq]
  have hgp : g ≠ p := by omega
  have hgq : g ≠ q := by omega
  have hpq : p ≠ q := by omega
  have hwp : w.heap.size ≤ p := by omega
  have hwq : w.heap.size ≤ q := by omega
  have HPQ := Lib.hid (And.intro hp hq)
  clear hp hq
  refine (number_any g s 999 _ B0.out hmax (by omega) (HGV.out.gb G0.out)).mono ?_
  rintro e a0 ⟨rfl, hb, hg⟩
  have C : Hid (s.r1.at_ a0 g) := hb
  have D := Lib.hid (gb_trans G0.out hg)
  have Q := Lib.hid (hQ0.out.gb hg hgq.symm)
  have P := Lib.hid (hP0.out.gb hg hgp.symm)
  have f := Q.out.cell 4
  have z := Q.out.free 4
  simp at f
  clear hb hg
  have B1 : Hid (s.r1.at_ (a0.setCell ⟨q, 4, none⟩ (.int .i64 (s.num 999))) g) := at_set _ C.out hgq
  have G1 : Hid (w.grownBy (a0.setCell ⟨q, 4, none⟩ (.int .i64 (s.num 999))) (some g)) := gb_setNew _ D.out hwq
  have hQ1 : Hid (Blk (a0.setCell ⟨q, 4, none⟩ (.int .i64 (s.num 999))) q 43 #[.string ⟨#[]⟩, .slice none 0 0, .int .u8 0, .int .u8 0, .int .i64 (s.num 999), .int .i64 0]) := Q.out.set 4 (.int .i64 (s.num 999))
  have hP1 : Hid (Blk (a0.setCell ⟨q, 4, none⟩ (.int .i64 (s.num 999))) p 43 #[.string ⟨#[]⟩, .slice none 0 0, .int .u8 0, .int .u8 0, .int .i64 0, .int .i64 0]) := (Below.heap_setCell _ _ _ _ hpq).trans P.out
  go_wp2_with fail
  clear f z C D Q P B0 G0 hQ0 hP0
  generalize (a0.setCell ⟨q, 4, none⟩ (.int .i64 (s.num 999))) = V1 at *
  refine (number_any g s.r1 999 _ B1.out (by have := HR.out; omega) (by omega) (HGV.out.gb G1.out)).mono ?_
  rintro e a1 ⟨rfl, hb, hg⟩
  have C : Hid (s.r2.at_ a1 g) := hb
  have D := Lib.hid (gb_trans G1.out hg)
  have Q := Lib.hid (hQ1.out.gb hg hgq.symm)
  have P := Lib.hid (hP1.out.gb hg hgp.symm)
  have f := Q.out.cell 5
  have z := Q.out.free 5
  simp at f
  clear hb hg
  have B2 : Hid (s.r2.at_ (a1.setCell ⟨q, 5, none⟩ (.int .i64 (s.r1.num 999))) g) := at_set _ C.out hgq
  have G2 : Hid (w.grownBy (a1.setCell ⟨q, 5, none⟩ (.int .i64 (s.r1.num 999))) (some g)) := gb_setNew _ D.out hwq
  have hQ2 : Hid (Blk (a1.setCell ⟨q, 5, none⟩ (.int .i64 (s.r1.num 999))) q 43 #[.string ⟨#[]⟩, .slice none 0 0, .int .u8 0, .int .u8 0, .int .i64 (s.num 999), .int .i64 (s.r1.num 999)]) := Q.out.set 5 (.int .i64 (s.r1.num 999))
  have hP2 : Hid (Blk (a1.setCell ⟨q, 5, none⟩ (.int .i64 (s.r1.num 999))) p 43 #[.string ⟨#[]⟩, .slice none 0 0, .int .u8 0, .int .u8 0, .int .i64 0, .int .i64 0]) := (Below.heap_setCell _ _ _ _ hpq).trans P.out
  go_wp2_with fail
  clear f z C D Q P B1 G1 hQ1 hP1
  generalize (a1.setCell ⟨q, 5, none⟩ (.int .i64 (s.r1.num 999))) = V2 at *
  refine (number_any g s.r2 255 _ B2.out (by have := HR.out; omega) (by omega) (HGV.out.gb G2.out)).mono ?_
  rintro e a2 ⟨rfl, hb, hg⟩
  have C : Hid (s.r3.at_ a2 g) := hb
  have D := Lib.hid (gb_trans G2.out hg)
  have Q := Lib.hid (hQ2.out.gb hg hgq.symm)
  have P := Lib.hid (hP2.out.gb hg hgp.symm)
  have f := Q.out.cell 2
  have z := Q.out.free 2
  simp at f
  clear hb hg
  have B3 : Hid (s.r3.at_ (a2.setCell ⟨q, 2, none⟩ (.int .u8 (s.r2.num 255))) g) := at_set _ C.out hgq
  have G3 : Hid (w.grownBy (a2.setCell ⟨q, 2, none⟩ (.int .u8 (s.r2.num 255))) (some g)) := gb_setNew _ D.out hwq
  have hQ3 : Hid (Blk (a2.setCell ⟨q, 2, none⟩ (.int .u8 (s.r2.num 255))) q 43 #[.string ⟨#[]⟩, .slice none 0 0, .int .u8 (s.r2.num 255), .int .u8 0, .int .i64 (s.num 999), .int .i64 (s.r1.num 999)]) := Q.out.set 2 (.int .u8 (s.r2.num 255))
  have hP3 : Hid (Blk (a2.setCell ⟨q, 2, none⟩ (.int .u8 (s.r2.num 255))) p 43 #[.string ⟨#[]⟩, .slice none 0 0, .int .u8 0, .int .u8 0, .int .i64 0, .int .i64 0]) := (Below.heap_setCell _ _ _ _ hpq).trans P.out
  go_wp2_with fail
  clear f z C D Q P B2 G2 hQ2 hP2
  generalize (a2.setCell ⟨q, 2, none⟩ (.int .u8 (s.r2.num 255))) = V3 at *
  refine (number_any g s.r3 255 _ B3.out (by have := HR.out; omega) (by omega) (HGV.out.gb G3.out)).mono ?_
  rintro e a3 ⟨rfl, hb, hg⟩
  have C : Hid (s.r4.at_ a3 g) := hb
  have D := Lib.hid (gb_trans G3.out hg)
  have Q := Lib.hid (hQ3.out.gb hg hgq.symm)
  have P := Lib.hid (hP3.out.gb hg hgp.symm)
  have f := Q.out.cell 3
  have z := Q.out.free 3
  simp at f
  clear hb hg
  have B4 : Hid (s.r4.at_ (a3.setCell ⟨q, 3, none⟩ (.int .u8 (s.r3.num 255))) g) := at_set _ C.out hgq
  have G4 : Hid (w.grownBy (a3.setCell ⟨q, 3, none⟩ (.int .u8 (s.r3.num 255))) (some g)) := gb_setNew _ D.out hwq
  have hQ4 : Hid (Blk (a3.setCell ⟨q, 3, none⟩ (.int .u8 (s.r3.num 255))) q 43 #[.string ⟨#[]⟩, .slice none 0 0, .int .u8 (s.r2.num 255), .int .u8 (s.r3.num 255), .int .i64 (s.num 999), .int .i64 (s.r1.num 999)]) := Q.out.set 3 (.int .u8 (s.r3.num 255))
  have hP4 : Hid (Blk (a3.setCell ⟨q, 3, none⟩ (.int .u8 (s.r3.num 255))) p 43 #[.string ⟨#[]⟩, .slice none 0 0, .int .u8 0, .int .u8 0, .int .i64 0, .int .i64 0]) := (Below.heap_setCell _ _ _ _ hpq).trans P.out
  go_wp2_with fail
  clear f z C D Q P B3 G3 hQ3 hP3
  generalize (a3.setCell ⟨q, 3, none⟩ (.int .u8 (s.r3.num 255))) = V4 at *
  have hqV : q < V4.heap.size := Blk.lt hQ4.out
  refine (cellsF_any g s.r4 _ B4.out (by have := HR.out; omega)).mono ?_
  rintro e a4 ⟨A, k, rfl, hs, hb, hg⟩
  have C : Hid (s.r5.at_ a4 g) := hb
  have D := Lib.hid (gb_trans G4.out hg)
  have Q := Lib.hid (hQ4.out.gb hg hgq.symm)
  have P := Lib.hid (hP4.out.gb hg hgp.symm)
  have S := Lib.hid hs
  have hqa : q < a4.heap.size := Blk.lt Q.out
  have f := Q.out.cell 1
  have z := Q.out.free 1
  simp at f
  clear hb hg hs
  have B5 : Hid (s.r5.at_ (a4.setCell ⟨q, 1, none⟩ (.slice A s.r4.csL.length k)) g) := at_set _ C.out hgq
  have G5 : Hid (w.grownBy (a4.setCell ⟨q, 1, none⟩ (.slice A s.r4.csL.length k)) (some g)) := gb_setNew _ D.out hwq
  have hQ5 : Hid (Blk (a4.setCell ⟨q, 1, none⟩ (.slice A s.r4.csL.length k)) q 43 #[.string ⟨#[]⟩, .slice A s.r4.csL.length k, .int .u8 (s.r2.num 255), .int .u8 (s.r3.num 255), .int .i64 (s.num 999), .int .i64 (s.r1.num 999)]) := Q.out.set 1 (.slice A s.r4.csL.length k)
  have hP5 : Hid (Blk (a4.setCell ⟨q, 1, none⟩ (.slice A s.r4.csL.length k)) p 43 #[.string ⟨#[]⟩, .slice none 0 0, .int .u8 0, .int .u8 0, .int .i64 0, .int .i64 0]) := (Below.heap_setCell _ _ _ _ hpq).trans P.out
  have S5 : Hid (SeqT (a4.setCell ⟨q, 1, none⟩ (.slice A s.r4.csL.length k)) w.heap.size A s.r4.csL) := (SeqT.set S.out Q.out (by decide) _).less (by have := G4.out.size; omega)
  go_wp2_with fail
  clear f z C D Q P S B4 G4 hQ4 hP4
  generalize (a4.setCell ⟨q, 1, none⟩ (.slice A s.r4.csL.length k)) = V5 at *
  refine (printed_any g s.r5 _ B5.out (by have := HR.out; omega)).mono ?_
  rintro e a5 ⟨rfl, hb, hg⟩
  have C : Hid (s.r6.at_ a5 g) := hb
  have D := Lib.hid (gb_trans G5.out hg)
  have Q := Lib.hid (hQ5.out.gb hg hgq.symm)
  have P := Lib.hid (hP5.out.gb hg hgp.symm)
  have f := Q.out.cell 0
  have z := Q.out.free 0
  simp at f
  have S6 : Hid (SeqT (a5.setCell ⟨q, 0, none⟩ (.string (strOf s.r5.prL))) w.heap.size A s.r4.csL) := SeqT.set (S5.out.gb hg B5.out (by decide)) Q.out (by decide) _
  clear hb hg
  have B6 : Hid (s.r6.at_ (a5.setCell ⟨q, 0, none⟩ (.string (strOf s.r5.prL))) g) := at_set _ C.out hgq
  have G6 : Hid (w.grownBy (a5.setCell ⟨q, 0, none⟩ (.string (strOf s.r5.prL))) (some g)) := gb_setNew _ D.out hwq
  have hQ6 : Hid (Blk (a5.setCell ⟨q, 0, none⟩ (.string (strOf s.r5.prL))) q 43 #[.string (strOf s.r5.prL), .slice A s.r4.csL.length k, .int .u8 (s.r2.num 255), .int .u8 (s.r3.num 255), .int .i64 (s.num 999), .int .i64 (s.r1.num 999)]) := Q.out.set 0 (.string (strOf s.r5.prL))
  have hP6 : Hid (Blk (a5.setCell ⟨q, 0, none⟩ (.string (strOf s.r5.prL))) p 43 #[.string ⟨#[]⟩, .slice none 0 0, .int .u8 0, .int .u8 0, .int .i64 0, .int .i64 0]) := (Below.heap_setCell _ _ _ _ hpq).trans P.out
  have q1 := Q.out.cell 1
  have q2 := Q.out.cell 2
  have q3 := Q.out.cell 3
  have q4 := Q.out.cell 4
  have q5 := Q.out.cell 5
  have p0 := P.out.cell 0
  have y0 := P.out.free 0
  have p1 := P.out.cell 1
  have y1 := P.out.free 1
  have p2 := P.out.cell 2
  have y2 := P.out.free 2
  have p3 := P.out.cell 3
  have y3 := P.out.free 3
  have p4 := P.out.cell 4
  have y4 := P.out.free 4
  have p5 := P.out.cell 5
  have y5 := P.out.free 5
  simp at q1 q2 q3 q4 q5 p0 p1 p2 p3 p4 p5
  have fin : ∀ (W : World) (i : Nat) (v : Value), (SeqT W w.heap.size A s.r4.csL ∧ s.r6.at_ W g ∧ w.grownBy W (some g) ∧ ∃ row, Blk W p 43 row) → (SeqT (W.setCell ⟨p, i, none⟩ v) w.heap.size A s.r4.csL ∧ s.r6.at_ (W.setCell ⟨p, i, none⟩ v) g ∧ w.grownBy (W.setCell ⟨p, i, none⟩ v) (some g) ∧ ∃ row, Blk (W.setCell ⟨p, i, none⟩ v) p 43 row) := fun W i v ⟨h1, h2, h3, row, h4⟩ =>
    ⟨SeqT.set h1 h4 (by decide) v, at_set v h2 hgp, gb_setNew v h3 hwp, _, Blk.set h4 i v⟩
  have HFIN := Lib.hid fin
  clear fin
  go_wp2
  refine bodyPost_ret (v := .agg #[.string (strOf s.r5.prL), .slice A s.r4.csL.length k, .int .u8 (s.r2.num 255), .int .u8 (s.r3.num 255), .int .i64 (s.num 999), .int .i64 (s.r1.num 999)]) (by simp [results, Tryz.results23, go_sem, p0, p1, p2, p3, p4, p5]) rfl ⟨A, k, rfl, ?_⟩
  have hf := HFIN.out _ 5 (.int .i64 (s.r1.num 999)) (HFIN.out _ 4 (.int .i64 (s.num 999)) (HFIN.out _ 3 (.int .u8 (s.r3.num 255)) (HFIN.out _ 2 (.int .u8 (s.r2.num 255)) (HFIN.out _ 1 (.slice A s.r4.csL.length k) (HFIN.out _ 0 (.string (strOf s.r5.prL)) ⟨S6.out, B6.out, G6.out, _, hP6.out⟩)))))
  exact ⟨hf.1, hf.2.1, hf.2.2.1⟩
end Go.Proofs.YtiedaongfjcbhabGreatDoor
