/- Package table: sound rules. -/
import Derived.Test.YtiedaongfjcbhabGreatDoorTab6
namespace Go.Proofs.YtiedaongfjcbhabGreatDoor
open Go.RowKit

def soundB (x : Rule) (m : Int) : Bool := decide (x.p.size ≤ 4) && isTextB (bytes x.p) && cellsB x.c && blanksB (bytes x.p) x.c && maskB x.l && maskB x.r && modeB x.f m && modeB x.t m
theorem chain8 (b1 b2 b3 b4 b5 b6 b7 b8 : Bool) : (b1 = false) ∨ (b1 = true ∧ b2 = false) ∨ (b1 = true ∧ b2 = true ∧ b3 = false) ∨ (b1 = true ∧ b2 = true ∧ b3 = true ∧ b4 = false) ∨ (b1 = true ∧ b2 = true ∧ b3 = true ∧ b4 = true ∧ b5 = false) ∨ (b1 = true ∧ b2 = true ∧ b3 = true ∧ b4 = true ∧ b5 = true ∧ b6 = false) ∨ (b1 = true ∧ b2 = true ∧ b3 = true ∧ b4 = true ∧ b5 = true ∧ b6 = true ∧ b7 = false) ∨ (b1 = true ∧ b2 = true ∧ b3 = true ∧ b4 = true ∧ b5 = true ∧ b6 = true ∧ b7 = true ∧ b8 = false) ∨ (b1 = true ∧ b2 = true ∧ b3 = true ∧ b4 = true ∧ b5 = true ∧ b6 = true ∧ b7 = true ∧ b8 = true) := by
  cases b1 <;> cases b2 <;> cases b3 <;> cases b4 <;> cases b5 <;> cases b6 <;> cases b7 <;> cases b8 <;> simp
set_option maxRecDepth 10000 in
set_option maxHeartbeats 800000 in
theorem sound_any (A : Option Addr) (n k : Nat) (x : Rule) (m : Int) (w : World) (hn : x.c.length = n) (hx : Seq w w.heap.size A x.c) (hp : x.p.size < 2 ^ 47) (hmax : n < 2 ^ 47) :
    Calls Tryz.prog 35 #[.agg #[.string x.p, .slice A n k, .int .u8 x.l, .int .u8 x.r, .int .i64 x.f, .int .i64 x.t], .int .i64 m] w fun e w' => e = .returned (.bool (soundB x m)) ∧ Below w.heap.size w w' := by
  obtain ⟨v, hv⟩ : ∃ v, soundB x m = v := ⟨_, rfl⟩
  rw [hv]
  unfold soundB at hv
  have HV := Lib.hid hv
  have HN := Lib.hid hn
  clear hn hv
  obtain ⟨b1, hb1⟩ : ∃ b, decide (x.p.size ≤ 4) = b := ⟨_, rfl⟩
  obtain ⟨b2, hb2⟩ : ∃ b, isTextB (bytes x.p) = b := ⟨_, rfl⟩
  obtain ⟨b3, hb3⟩ : ∃ b, cellsB x.c = b := ⟨_, rfl⟩
  obtain ⟨b4, hb4⟩ : ∃ b, blanksB (bytes x.p) x.c = b := ⟨_, rfl⟩
  obtain ⟨b5, hb5⟩ : ∃ b, maskB x.l = b := ⟨_, rfl⟩
  obtain ⟨b6, hb6⟩ : ∃ b, maskB x.r = b := ⟨_, rfl⟩
  obtain ⟨b7, hb7⟩ : ∃ b, modeB x.f m = b := ⟨_, rfl⟩
  obtain ⟨b8, hb8⟩ : ∃ b, modeB x.t m = b := ⟨_, rfl⟩
  rw [hb1, hb2, hb3, hb4, hb5, hb6, hb7, hb8] at HV
  have H2 := Lib.hid hb2
  have H3 := Lib.hid hb3
  have H4 := Lib.hid hb4
  have H5 := Lib.hid hb5
  have H6 := Lib.hid hb6
  have H7 := Lib.hid hb7
  have H8 := Lib.hid hb8
  have hd1 : decide ((x.p.size : Int) ≤ 4) = b1 := by rw [← hb1]; rw [Bool.eq_iff_iff]; simp; omega
  clear hb1 hb2 hb3 hb4 hb5 hb6 hb7 hb8
  rcases chain8 b1 b2 b3 b4 b5 b6 b7 b8 with rfl | ⟨rfl, rfl⟩ | ⟨rfl, rfl, rfl⟩ | ⟨rfl, rfl, rfl, rfl⟩ | ⟨rfl, rfl, rfl, rfl, rfl⟩ | ⟨rfl, rfl, rfl, rfl, rfl, rfl⟩ | ⟨rfl, rfl, rfl, rfl, rfl, rfl, rfl⟩ | ⟨rfl, rfl, rfl, rfl, rfl, rfl, rfl, rfl⟩ | ⟨rfl, rfl, rfl, rfl, rfl, rfl, rfl, rfl⟩
  all_goals
    go_enter Tryz.func35, Tryz.ntmps35
    have hbx : Hid (Below w.heap.size w (w.alloc (.cells #[.string x.p, .slice A n k, .int .u8 x.l, .int .u8 x.r, .int .i64 x.f, .int .i64 x.t] 43))) := below_box w _ _
    go_wp2_with (first
      | (go_at_call 29; refine (isText_any _ _ (by omega)).mono ?_; rintro e w' ⟨rfl, rfl⟩; rw [H2.out])
      | (go_at_call 51; refine (soundCells_any _ _ _ _ _ HN.out (hx.up hbx.out) hmax).mono ?_; rintro e w' ⟨rfl, rfl⟩; rw [H3.out])
      | (go_at_call 52; refine (soundBlanks_any _ _ _ _ _ _ _ _ _ _ HN.out (hx.up hbx.out) hp hmax).mono ?_; rintro e w' ⟨rfl, hb'⟩; rw [H4.out]; have hbw := Lib.hid (below_next hbx.out hb'); obtain ⟨hcc, hff⟩ := bcell hb'; have hzz := hb'.size; clear hb')
      | (go_at_call 53; refine (soundMask_any _ _).mono ?_; rintro e w' ⟨rfl, rfl⟩; first | rw [H5.out] | rw [H6.out])
      | (go_at_call 54; refine (soundMode_any _ _ _).mono ?_; rintro e w' ⟨rfl, rfl⟩; first | rw [H7.out] | rw [H8.out]))
    go_ret
    exact ⟨ret_bool (by rw [← HV.out]; rfl), by first | exact hbw.out | exact hbx.out⟩
end Go.Proofs.YtiedaongfjcbhabGreatDoor
