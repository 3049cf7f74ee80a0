/- The fixed examples of the laws of stage 2: the walk. -/
import Derived.Test.YtiedaongfjcbhabGreatDoorSan1
import Derived.StillTailTactics
namespace Go.Proofs.YtiedaongfjcbhabGreatDoor
open Go.RowKit

theorem class_lit (b r : Int) (h : clsI b = r) (h0 : 0 ≤ b ∧ b < 256) (w : World) :
    Calls Tryz.prog 10 #[.int .u8 b] w fun e w' => e = .returned (.int .i64 r) ∧ w = w' := by
  rw [← h]; exact class_any b h0.1 h0.2 w
theorem text_lit (s : ByteArray) (r e : Int) (h : (textAt (bytes s) : Int) = r ∧ textE (bytes s) = e) (hs : s.size < 2 ^ 48) (w : World) :
    Calls Tryz.prog 11 #[.string s] w fun e' w' => e' = .returned (.tuple #[.int .i64 r, .int .i64 e]) ∧ w = w' := by
  rw [← h.1, ← h.2]; exact text_any s w hs
theorem clean_lit (s : ByteArray) (r : Bool) (h : cleanB (bytes s) = r) (hs : s.size < 2 ^ 48) (w : World) :
    Calls Tryz.prog 12 #[.string s] w fun e w' => e = .returned (.bool r) ∧ w = w' := by
  rw [← h]; exact clean_any s w hs
def SanS (q1 b o k k0 : Nat) (A0 : Option Addr) (w' : World) : Prop := w'.cell? ⟨q1, 2, none⟩ = some (.slice (some ⟨b, o, none⟩) 4 k) ∧ w'.cell? ⟨b, o, none⟩ = some (.string ⟨#[97]⟩) ∧ w'.cell? ⟨b, o + 1, none⟩ = some (.slice A0 1 k0) ∧ w'.cell? ⟨b, o + 2, none⟩ = some (.int .u8 63) ∧ w'.cell? ⟨b, o + 3, none⟩ = some (.int .u8 63) ∧ w'.cell? ⟨b, o + 4, none⟩ = some (.int .i64 0) ∧ w'.cell? ⟨b, o + 5, none⟩ = some (.int .i64 0)
theorem check_lit (A : Option Addr) (n k : Nat) (m a i e : Int) (rs : List Rule) (h : chkI m a rs = i ∧ chkE m a rs = e) (w : World) (hn : rs.length = n) (hx : Rules w w.heap.size A rs) (hmax : n < 2 ^ 40) (hcap : n ≤ k) (ha : 0 ≤ a ∧ a < 256) :
    Calls Tryz.prog 14 #[.agg #[.int .i64 m, .int .u8 a, .slice A n k]] w fun e' w' => e' = .returned (.tuple #[.int .i64 i, .int .i64 e]) ∧ Below w.heap.size w w' := by
  rw [← h.1, ← h.2]; exact check_any A n k m a rs w hn hx hmax hcap ha
theorem valid_lit (A : Option Addr) (n k : Nat) (m a : Int) (r : Bool) (rs : List Rule) (h : validB m a rs = r) (w : World) (hn : rs.length = n) (hx : Rules w w.heap.size A rs) (hmax : n < 2 ^ 40) (hcap : n ≤ k) (ha : 0 ≤ a ∧ a < 256) :
    Calls Tryz.prog 15 #[.agg #[.int .i64 m, .int .u8 a, .slice A n k]] w fun e' w' => e' = .returned (.bool r) ∧ Below w.heap.size w w' := by
  rw [← h]; exact valid_table_any A n k m a rs w hn hx hmax hcap ha
theorem parse_form (s : ByteArray) (n : Nat) (h : parseT s.data.toList = .form n) (hs : s.size < 2 ^ 30) (w : World) (hL : Laid w) :
    Calls Tryz.prog 7 #[.string s] w fun e' w' => e' = .returned (.tuple #[.agg #[.int .i64 0, .int .u8 0, .slice none 0 0], .int .i64 n, .int .i64 3]) ∧ Below w.heap.size w w' := by
  refine (parseTab_any s w hs hL).mono ?_
  rintro e w' ⟨hb, h2⟩
  rw [h] at h2
  exact ⟨h2, hb⟩
theorem parse_bad (s : ByteArray) (m a i e : Int) (rs : List Rule) (h : parseT s.data.toList = .done m a rs) (h2 : chkI m a rs = i ∧ chkE m a rs = e) (he : ¬ e = 0) (hs : s.size < 2 ^ 30) (w : World) (hL : Laid w) :
    Calls Tryz.prog 7 #[.string s] w fun e' w' => e' = .returned (.tuple #[.agg #[.int .i64 0, .int .u8 0, .slice none 0 0], .int .i64 i, .int .i64 e]) ∧ Below w.heap.size w w' := by
  refine (parseTab_any s w hs hL).mono ?_
  rintro e' w' ⟨hb, h3⟩
  rw [h] at h3
  simp only at h3
  rw [if_neg (by rw [h2.2]; exact he), h2.1, h2.2] at h3
  exact ⟨h3, hb⟩
def SB (w : World) (q1 b k : Nat) (X : World) : Prop := Below w.heap.size w X ∧ Blk X q1 28 #[.int .i64 1, .int .u8 1, .slice (some ⟨b, 0, none⟩) lettersR.length k] ∧ Made X w.heap.size (.slice (some ⟨b, 0, none⟩) lettersR.length k) lettersR
theorem SB.next {w X X' : World} {q1 b k : Nat} (h : SB w q1 b k X) (hb : Below X.heap.size X X') : SB w q1 b k X' :=
  ⟨below_next h.1 hb, h.2.1.keep hb (Blk.lt h.2.1), h.2.2.keep hb⟩
theorem SB.box {w X : World} {q1 b k : Nat} (h : SB w q1 b k X) (vs : Array Value) (e : TypeId) : SB w q1 b k (X.alloc (.cells vs e)) := h.next (below_box _ _ _)
theorem Made.rs {w : World} {lo n k : Nat} {A : Option Addr} {rs : List Rule} (h : Made w lo (.slice A n k) rs) : Rules w w.heap.size A rs ∧ rs.length = n ∧ n ≤ k := by
  obtain ⟨A', k', vals, e, ho, hr⟩ := h
  injection e with e1 e2 e3
  subst e1 e2 e3
  obtain ⟨a, b, c⟩ := hr.rules ho
  exact ⟨a, rfl, c⟩
theorem format_lit (A : Option Addr) (n k : Nat) (m a : Int) (rs : List Rule) (b : ByteArray) (h : strU (fmtTable m a rs) = b) (w : World) (hn : rs.length = n) (hx : Rules w w.heap.size A rs) (hmax : n ≤ 1000) (ha : 0 ≤ a ∧ a < 256) (hm : -9223372036854775808 ≤ m ∧ m ≤ 9223372036854775807) (hp : ∀ x ∈ rs, x.plain) (hL : Laid w) :
    Calls Tryz.prog 6 #[.agg #[.int .i64 m, .int .u8 a, .slice A n k]] w fun e w' => e = .returned (.string b) ∧ Below w.heap.size w w' := by
  rw [← h]; exact format_any A n k m a rs w hn hx hmax ha hm hp hL
theorem s_fmtB : strU (fmtTable 2 3 [sanR]) = ⟨#[109, 111, 100, 101, 115, 32, 50, 32, 97, 99, 99, 101, 112, 116, 32, 51, 10, 48, 32, 49, 32, 54, 51, 32, 50, 32, 49, 50, 32, 54, 49, 54, 50, 10]⟩ := by rw [s_fmt]; rfl
theorem san_plain : ∀ x ∈ [sanR], x.plain := by
  intro x hx
  simp only [List.mem_singleton] at hx
  subst hx
  exact ⟨by decide, by decide, by decide, by decide, by decide, by decide, by decide⟩
theorem san_fits : sanR.fits := ⟨by decide, by decide, by decide, by decide, by decide, by decide, by decide⟩
set_option maxRecDepth 10000 in
set_option maxHeartbeats 4000000 in
theorem sanity_any (w : World) (hL : Laid w) :
    Calls Tryz.prog 4 #[] w fun e w' => e = .returned (.bool true) ∧ Below w.heap.size w w' := by
  have HL := Lib.hid hL
  clear hL
  go_enter Tryz.func4, Tryz.ntmps4
  go_wp2_with fail
  refine (class_lit 113 1 (by decide +kernel) (by decide) _).mono ?_
  rintro e _ ⟨rfl, rfl⟩
  go_wp2_with fail
  refine (class_lit 81 2 (by decide +kernel) (by decide) _).mono ?_
  rintro e _ ⟨rfl, rfl⟩
  go_wp2_with fail
  refine (class_lit 55 3 (by decide +kernel) (by decide) _).mono ?_
  rintro e _ ⟨rfl, rfl⟩
  go_wp2_with fail
  refine (class_lit 45 5 (by decide +kernel) (by decide) _).mono ?_
  rintro e _ ⟨rfl, rfl⟩
  go_wp2_with fail
  refine (class_lit 32 4 (by decide +kernel) (by decide) _).mono ?_
  rintro e _ ⟨rfl, rfl⟩
  go_wp2_with fail
  refine (class_lit 241 1 (by decide +kernel) (by decide) _).mono ?_
  rintro e _ ⟨rfl, rfl⟩
  go_wp2_with fail
  refine (class_lit 3 5 (by decide +kernel) (by decide) _).mono ?_
  rintro e _ ⟨rfl, rfl⟩
  go_wp2_with fail
  refine (text_lit ⟨#[97, 98]⟩ 2 0 (by decide +kernel) (by decide) _).mono ?_
  rintro e _ ⟨rfl, rfl⟩
  go_wp2_with fail
  refine (text_lit ⟨#[97, 10]⟩ 1 60 (by decide +kernel) (by decide) _).mono ?_
  rintro e _ ⟨rfl, rfl⟩
  go_wp2_with fail
  refine (clean_lit ⟨#[97, 32, 98]⟩ true (by decide +kernel) (by decide) _).mono ?_
  rintro e _ ⟨rfl, rfl⟩
  go_wp2_with fail
  refine (clean_lit ⟨#[32, 97]⟩ false (by decide +kernel) (by decide) _).mono ?_
  rintro e _ ⟨rfl, rfl⟩
  go_wp2_with fail
  refine (clean_lit ⟨#[97, 32, 32, 98]⟩ false (by decide +kernel) (by decide) _).mono ?_
  rintro e _ ⟨rfl, rfl⟩
  go_wp2_with fail
  refine (clean_lit ⟨#[]⟩ false (by decide +kernel) (by decide) _).mono ?_
  rintro e _ ⟨rfl, rfl⟩
  go_wp2_with fail
  refine (clean_lit ⟨#[97, 160]⟩ false (by decide +kernel) (by decide) _).mono ?_
  rintro e _ ⟨rfl, rfl⟩
  go_wp2_with fail
  refine (base0_any _).mono ?_
  rintro e w1 ⟨v, rfl, hm, hb⟩
  obtain ⟨A, k, vals, rfl, ho, hr⟩ := hm
  have HO := Lib.hid ho
  have HR := Lib.hid hr
  have HB := Lib.hid hb
  clear ho hr hb
  go_wp2_with fail
  have P1 : Hid (Blk (((w1.alloc (.cells #[.int .i64 1, .int .u8 1, .slice A lettersR.length k] 28)).alloc (.cells #[.int .i64 0, .int .u8 1, .slice A lettersR.length k] 28)).alloc (.cells #[.int .i64 1, .int .u8 1, .slice A lettersR.length k] 28)) w1.heap.size 28 #[.int .i64 1, .int .u8 1, .slice A lettersR.length k]) := (Blk.new w1 _ _).box.box
  have P2 : Hid (Blk (((w1.alloc (.cells #[.int .i64 1, .int .u8 1, .slice A lettersR.length k] 28)).alloc (.cells #[.int .i64 0, .int .u8 1, .slice A lettersR.length k] 28)).alloc (.cells #[.int .i64 1, .int .u8 1, .slice A lettersR.length k] 28)) (w1.heap.size + 1) 28 #[.int .i64 0, .int .u8 1, .slice A lettersR.length k]) := by
    have := Blk.new (w1.alloc (.cells #[.int .i64 1, .int .u8 1, .slice A lettersR.length k] 28)) #[.int .i64 0, .int .u8 1, .slice A lettersR.length k] 28
    simp only [World.size_alloc] at this
    exact this.box
  have P3 : Hid (Blk (((w1.alloc (.cells #[.int .i64 1, .int .u8 1, .slice A lettersR.length k] 28)).alloc (.cells #[.int .i64 0, .int .u8 1, .slice A lettersR.length k] 28)).alloc (.cells #[.int .i64 1, .int .u8 1, .slice A lettersR.length k] 28)) (w1.heap.size + 1 + 1) 28 #[.int .i64 1, .int .u8 1, .slice A lettersR.length k]) := by
    have := Blk.new ((w1.alloc (.cells #[.int .i64 1, .int .u8 1, .slice A lettersR.length k] 28)).alloc (.cells #[.int .i64 0, .int .u8 1, .slice A lettersR.length k] 28)) #[.int .i64 1, .int .u8 1, .slice A lettersR.length k] 28
    simp only [World.size_alloc] at this
    exact this
  have M1 : Hid (Made (((w1.alloc (.cells #[.int .i64 1, .int .u8 1, .slice A lettersR.length k] 28)).alloc (.cells #[.int .i64 0, .int .u8 1, .slice A lettersR.length k] 28)).alloc (.cells #[.int .i64 1, .int .u8 1, .slice A lettersR.length k] 28)) w.heap.size (.slice A lettersR.length k) lettersR) := by
    have h0 : Made w1 w.heap.size (.slice A lettersR.length k) lettersR := ⟨A, k, vals, rfl, HO.out, HR.out⟩
    exact ((h0.keep (below_box _ _ _)).keep (below_box _ _ _)).keep (below_box _ _ _)
  have BB : Hid (Below w.heap.size w (((w1.alloc (.cells #[.int .i64 1, .int .u8 1, .slice A lettersR.length k] 28)).alloc (.cells #[.int .i64 0, .int .u8 1, .slice A lettersR.length k] 28)).alloc (.cells #[.int .i64 1, .int .u8 1, .slice A lettersR.length k] 28))) := by
    have := HB.out.size
    exact ((HB.out.alloc this _).alloc (by simp; omega) _).alloc (by simp; omega) _
  clear HO HR
  generalize (((w1.alloc (.cells #[.int .i64 1, .int .u8 1, .slice A lettersR.length k] 28)).alloc (.cells #[.int .i64 0, .int .u8 1, .slice A lettersR.length k] 28)).alloc (.cells #[.int .i64 1, .int .u8 1, .slice A lettersR.length k] 28)) = X at *
  obtain ⟨q1, hq1⟩ : ∃ q, w1.heap.size = q := ⟨_, rfl⟩
  have hq0 : w.heap.size ≤ q1 := by rw [← hq1]; exact HB.out.size
  rw [hq1] at P1 P2 P3
  simp only [hq1]
  clear HB hq1 w1
  obtain ⟨_, _, vals, e, ho, hr⟩ := M1.out
  injection e with e1 e2 e3
  subst e1 e3
  obtain ⟨b, cap, cur, e, hb0, hblk, hcap, _⟩ : ∃ g cap cur, Value.slice A lettersR.length k = .slice (some ⟨g, 0, none⟩) lettersR.length cap ∧ w.heap.size ≤ g ∧ Blk X g 43 cur ∧ lettersR.length ≤ cap ∧ True := by
    rcases ho.2 with ⟨_, h⟩ | ⟨g, cap, cur, h1, h2, h3, h4, _⟩
    · cases h
    · exact ⟨g, cap, cur, h1, h2, h3, h4, trivial⟩
  injection e with e1 e2 e3
  subst e1 e3
  obtain ⟨A0, k0, b0, b1, b2, b3, b4, b5, hsT, hf0⟩ := hr.1.2 0 (by decide)
  have hsT := SeqC.mk_ hsT (hr.2 0 _ _ _ b1)
  have hl0 : vals.length = 24 := hr.1.1
  have a0 : X.cell? ⟨b, 0, none⟩ = some (.string ⟨#[97]⟩) := (ho.cellAt 0 (by decide)).trans b0
  have a1 : X.cell? ⟨b, 0 + 1, none⟩ = some (.slice A0 1 k0) := (ho.cellAt 1 (by decide)).trans b1
  have a2 : X.cell? ⟨b, 0 + 2, none⟩ = some (.int .u8 63) := (ho.cellAt 2 (by decide)).trans b2
  have a3 : X.cell? ⟨b, 0 + 3, none⟩ = some (.int .u8 63) := (ho.cellAt 3 (by decide)).trans b3
  have a4 : X.cell? ⟨b, 0 + 4, none⟩ = some (.int .i64 0) := (ho.cellAt 4 (by decide)).trans b4
  have a5 : X.cell? ⟨b, 0 + 5, none⟩ = some (.int .i64 0) := (ho.cellAt 5 (by decide)).trans b5
  have MT := Lib.hid (Made.lit ((RulesW.nil.snoc (k := k0) hsT hf0).snoc (k := k0) hsT hf0) BB.out.size (by decide))
  clear ho hr b0 b1 b2 b3 b4 b5 hsT hf0 hl0
  have t1 := P1.out.cell 2
  simp only [List.getElem?_toArray, List.getElem?_cons_zero, List.getElem?_cons_succ] at t1
  have t1 : X.cell? ⟨q1, 2, none⟩ = some (.slice (some ⟨b, 0, none⟩) 4 k) := t1
  obtain ⟨q3, hq3⟩ : ∃ q, q1 + 1 + 1 = q := ⟨_, rfl⟩
  obtain ⟨q2, hq2⟩ : ∃ q, q1 + 1 = q := ⟨_, rfl⟩
  rw [hq3] at P3
  rw [hq2] at P2
  simp only [hq3]
  simp only [hq2]
  have n13 : q1 ≠ q3 := by omega
  have n23 : q2 ≠ q3 := by omega
  have l3 : w.heap.size ≤ q3 := by omega
  have l2 : w.heap.size ≤ q2 := by omega
  clear hq3 hq2
  have hS0 : SanS q1 b 0 k k0 A0 X.drew := ⟨t1, a0, a1, a2, a3, a4, a5⟩
  refine wp_region_held_drew (S := SanS q1 b 0 k k0 A0) (by kernel_rfl) hS0 (fun hS0 => ?_)
  refine wpAnyH_take (i := 0) (v := ?_) rfl (by kernel_rfl) (by kernel_rfl) (by kernel_rfl) (fun _ _ _ h => h) (Or.inl ⟨by kernel_rfl, ?_⟩) hS0 ?_
  rotate_left
  · (intro W2 hSw; unfold SanS at hSw; go_simp; try with_reducible rfl)
  refine wpAnyH_take (i := 1) (v := ?_) rfl (by kernel_rfl) (by kernel_rfl) (by kernel_rfl) (fun _ _ _ h => h) (Or.inl ⟨by kernel_rfl, ?_⟩) hS0 ?_
  rotate_left
  · (intro W2 hSw; unfold SanS at hSw; go_simp; try with_reducible rfl)
  refine wpAnyH_take (i := 2) (v := ?_) rfl (by kernel_rfl) (by kernel_rfl) (by kernel_rfl) (fun _ _ _ h => h) (Or.inl ⟨by kernel_rfl, ?_⟩) hS0 ?_
  rotate_left
  · (intro W2 hSw; unfold SanS at hSw; go_simp; try with_reducible rfl)
  refine wpAnyH_take (i := 3) (v := ?_) rfl (by kernel_rfl) (by kernel_rfl) (by kernel_rfl) (fun _ _ _ h => h) (Or.inl ⟨by kernel_rfl, ?_⟩) hS0 ?_
  rotate_left
  · (intro W2 hSw; unfold SanS at hSw; go_simp; try with_reducible rfl)
  refine wpAnyH_take (i := 4) (v := ?_) rfl (by kernel_rfl) (by kernel_rfl) (by kernel_rfl) (fun _ _ _ h => h) (Or.inl ⟨by kernel_rfl, ?_⟩) hS0 ?_
  rotate_left
  · (intro W2 hSw; unfold SanS at hSw; go_simp; try with_reducible rfl)
  refine wpAnyH_take (i := 5) (v := ?_) rfl (by kernel_rfl) (by kernel_rfl) (by kernel_rfl) (fun _ _ _ h => h) (Or.inl ⟨by kernel_rfl, ?_⟩) hS0 ?_
  rotate_left
  · (intro W2 hSw; unfold SanS at hSw; go_simp; try with_reducible rfl)
  refine wpAnyH_take (i := 6) (v := ?_) rfl (by kernel_rfl) (by kernel_rfl) (by kernel_rfl) (fun _ _ _ h => h) (Or.inl ⟨by kernel_rfl, ?_⟩) hS0 ?_
  rotate_left
  · (intro W2 hSw; unfold SanS at hSw; go_simp; try with_reducible rfl)
  refine wpAnyH_take (i := 7) (v := ?_) rfl (by kernel_rfl) (by kernel_rfl) (by kernel_rfl) (fun _ _ _ h => h) (Or.inl ⟨by kernel_rfl, ?_⟩) hS0 ?_
  rotate_left
  · (intro W2 hSw; unfold SanS at hSw; go_simp; try with_reducible rfl)
  refine wpAnyH_ready (rs := [8]) (by kernel_rfl) (by simp) ?_
  refine AllReadyH.cons rfl (fun K hK => ?_) AllReadyH.nil
  go_simp
  obtain ⟨g, hg⟩ : ∃ g, X.heap.size = g := ⟨_, rfl⟩
  have W5 : Hid (Below X.heap.size X (X.alloc (.cells #[.string ⟨#[97]⟩, .slice A0 1 k0, .int .u8 63, .int .u8 63, .int .i64 0, .int .i64 0, .string ⟨#[97]⟩, .slice A0 1 k0, .int .u8 63, .int .u8 63, .int .i64 0, .int .i64 0] 43)).drew) := (below_box X _ _).drew
  have M5 : Hid (Made (X.alloc (.cells #[.string ⟨#[97]⟩, .slice A0 1 k0, .int .u8 63, .int .u8 63, .int .i64 0, .int .i64 0, .string ⟨#[97]⟩, .slice A0 1 k0, .int .u8 63, .int .u8 63, .int .i64 0, .int .i64 0] 43)).drew w.heap.size (.slice (some ⟨X.heap.size, 0, none⟩) 2 2) [simpleR (strOf [97]) [1] 0 0, simpleR (strOf [97]) [1] 0 0]) := MT.out
  clear MT
  rw [hg] at M5
  simp only [hg]
  generalize (X.alloc (.cells #[.string ⟨#[97]⟩, .slice A0 1 k0, .int .u8 63, .int .u8 63, .int .i64 0, .int .i64 0, .string ⟨#[97]⟩, .slice A0 1 k0, .int .u8 63, .int .u8 63, .int .i64 0, .int .i64 0] 43)).drew = X5 at *
  have Q1 := Lib.hid (P1.out.keep W5.out (Blk.lt P1.out))
  have Q2 := Lib.hid (P2.out.keep W5.out (Blk.lt P2.out))
  have Q3 := Lib.hid (P3.out.keep W5.out (Blk.lt P3.out))
  have N1 := Lib.hid (M1.out.keep W5.out)
  have BB5 := Lib.hid (below_next BB.out W5.out)
  have hS5 : SanS q1 b 0 k k0 A0 X5 := by
    have key : ∀ q i v, q < X.heap.size → X.cell? ⟨q, i, none⟩ = some v → X5.cell? ⟨q, i, none⟩ = some v := fun q i v hq h => (W5.out.cell (p := ⟨q, i, none⟩) hq).trans h
    exact ⟨key _ _ _ (Blk.lt P1.out) t1, key _ _ _ (Blk.lt hblk) a0, key _ _ _ (Blk.lt hblk) a1, key _ _ _ (Blk.lt hblk) a2, key _ _ _ (Blk.lt hblk) a3, key _ _ _ (Blk.lt hblk) a4, key _ _ _ (Blk.lt hblk) a5⟩
  have nb3 : b ≠ q3 := Blk.type_ne hblk P3.out (by decide)
  clear P1 P2 P3 M1 BB W5 t1 a0 a1 a2 a3 a4 a5 hS0 hblk
  refine hK.out _ _ hS5 (fun _ => ?_)
  clear hK K
  refine wpAnyH_take (i := 9) (v := ?_) rfl (by kernel_rfl) (by kernel_rfl) (by kernel_rfl) (fun _ _ _ h => h) (Or.inl ⟨by kernel_rfl, ?_⟩) hS5 ?_
  rotate_left
  · (intro W2 hSw; unfold SanS at hSw; go_simp; try with_reducible rfl)
  have c32 := Q3.out.cell 2
  have f32 := Q3.out.free 2
  simp only [List.getElem?_toArray, List.getElem?_cons_zero, List.getElem?_cons_succ] at c32
  refine wpAnyH_ready (rs := [10]) (by kernel_rfl) (by simp) ?_
  refine AllReadyH.cons rfl (fun K hK => ?_) AllReadyH.nil
  go_simp
  have hS6 : SanS q1 b 0 k k0 A0 (X5.setCell ⟨q3, 2, none⟩ (.slice (some ⟨g, 0, none⟩) 2 2)) := by
    have key : ∀ q i v, q ≠ q3 → X5.cell? ⟨q, i, none⟩ = some v → (X5.setCell ⟨q3, 2, none⟩ (.slice (some ⟨g, 0, none⟩) 2 2)).cell? ⟨q, i, none⟩ = some v := fun q i v hq h => (World.cell?_of_block (a := ⟨q, i, none⟩) (Below.heap_setCell _ _ _ _ hq)).trans h
    obtain ⟨t1, a0, a1, a2, a3, a4, a5⟩ := hS5
    exact ⟨key _ _ _ n13 t1, key _ _ _ nb3 a0, key _ _ _ nb3 a1, key _ _ _ nb3 a2, key _ _ _ nb3 a3, key _ _ _ nb3 a4, key _ _ _ nb3 a5⟩
  refine hK.out _ _ hS6 (fun _ => ?_)
  clear hK K hS5 hS6
  have R1 : Hid (Blk (X5.setCell ⟨q3, 2, none⟩ (.slice (some ⟨g, 0, none⟩) 2 2)) q1 28 #[.int .i64 1, .int .u8 1, .slice (some ⟨b, 0, none⟩) lettersR.length k]) := (Below.heap_setCell _ _ _ _ n13).trans Q1.out
  have R2 : Hid (Blk (X5.setCell ⟨q3, 2, none⟩ (.slice (some ⟨g, 0, none⟩) 2 2)) q2 28 #[.int .i64 0, .int .u8 1, .slice (some ⟨b, 0, none⟩) lettersR.length k]) := (Below.heap_setCell _ _ _ _ n23).trans Q2.out
  have R3 : Hid (Blk (X5.setCell ⟨q3, 2, none⟩ (.slice (some ⟨g, 0, none⟩) 2 2)) q3 28 #[.int .i64 1, .int .u8 1, .slice (some ⟨g, 0, none⟩) 2 2]) := Q3.out.set 2 _
  have M6 := Lib.hid (Made.set M5.out Q3.out (by decide) (i := 2) (.slice (some ⟨g, 0, none⟩) 2 2))
  have N6 := Lib.hid (Made.set N1.out Q3.out (by decide) (i := 2) (.slice (some ⟨g, 0, none⟩) 2 2))
  have BB6 : Hid (Below w.heap.size w (X5.setCell ⟨q3, 2, none⟩ (.slice (some ⟨g, 0, none⟩) 2 2))) := BB5.out.setCell (by exact l3) _
  clear Q1 Q2 Q3 M5 N1 BB5 c32 f32
  generalize X5.setCell ⟨q3, 2, none⟩ (.slice (some ⟨g, 0, none⟩) 2 2) = X6 at *
  refine wpAnyH_done (by kernel_rfl) ?_ _
  try dsimp [Act.put]
  try simp only [List.setIfInBounds_toArray, List.set_cons_zero, List.set_cons_succ]
  have r20 := R2.out.cell 0
  have r21 := R2.out.cell 1
  have r22 := R2.out.cell 2
  simp only [List.getElem?_toArray, List.getElem?_cons_zero, List.getElem?_cons_succ] at r20 r21 r22
  go_wp2_with fail
  refine (check_lit _ _ _ 0 1 (-1) 1 lettersR s_chk0 X6 rfl N6.out.rs.1 (by decide) N6.out.rs.2.2 (by decide)).mono ?_
  rintro e X7 ⟨rfl, hb⟩
  have SB7 : Hid (SB w q1 b k X7) := SB.next ⟨BB6.out, R1.out, N6.out⟩ hb
  have T3 := Lib.hid (R3.out.keep hb (Blk.lt R3.out))
  have M7 := Lib.hid (M6.out.keep hb)
  clear hb R1 R2 R3 M6 N6 BB6 r20 r21 r22
  have r30 := T3.out.cell 0
  have r31 := T3.out.cell 1
  have r32 := T3.out.cell 2
  simp only [List.getElem?_toArray, List.getElem?_cons_zero, List.getElem?_cons_succ] at r30 r31 r32
  go_wp2_with fail
  refine (check_lit _ _ _ 1 1 1 20 _ s_chk2 X7 rfl M7.out.rs.1 (by decide) M7.out.rs.2.2 (by decide)).mono ?_
  rintro e X8 ⟨rfl, hb⟩
  have SB8 := Lib.hid (SB7.out.next hb)
  clear hb SB7 T3 M7 r30 r31 r32
  go_wp2_with fail
  refine (parse_form _ 0 s_parse1 (by decide) X8 (HL.out.keep SB8.out.1)).mono ?_
  rintro e X9 ⟨rfl, hb⟩
  have SB9 := Lib.hid ((SB8.out.next hb).box #[.int .i64 0, .int .u8 0, .slice none 0 0] 28)
  clear hb SB8
  go_wp2_with fail
  refine (parse_bad _ 1 1 (-1) 1 [] s_parse2 s_chk3 (by decide) (by decide) _ (HL.out.keep SB9.out.1)).mono ?_
  rintro e X10 ⟨rfl, hb⟩
  have SB10 := Lib.hid ((SB9.out.next hb).box #[.int .i64 0, .int .u8 0, .slice none 0 0] 28)
  clear hb SB9
  go_wp2_with fail
  refine (parse_form _ 0 s_parse0 (by decide) _ (HL.out.keep SB10.out.1)).mono ?_
  rintro e X11 ⟨rfl, hb⟩
  have SB11 := Lib.hid ((SB10.out.next hb).box #[.int .i64 0, .int .u8 0, .slice none 0 0] 28)
  clear hb SB10
  go_wp2_with fail
  have M12 : Hid (Made ((((X11.alloc (.cells #[.int .i64 0, .int .u8 0, .slice none 0 0] 28)).alloc (.cells #[.int .u8 3] 45)).alloc (.cells #[.string ⟨#[97, 98]⟩, .slice (some ⟨X11.heap.size + 1, 0, none⟩) 1 1, .int .u8 63, .int .u8 2, .int .i64 0, .int .i64 1] 43)).alloc (.cells #[.int .i64 2, .int .u8 3, .slice (some ⟨X11.heap.size + 1 + 1, 0, none⟩) 1 1] 28)) w.heap.size (.slice (some ⟨X11.heap.size + 1 + 1, 0, none⟩) 1 1) [sanR]) := by
    obtain ⟨A', k', e, hs⟩ := IsCells.new (X11.alloc (.cells #[.int .i64 0, .int .u8 0, .slice none 0 0] 28)) 3
    simp only [World.size_alloc] at e hs
    injection e with e1 e2 e3
    subst e1 e3
    have h1 := Made.lit (w := (X11.alloc (.cells #[.int .i64 0, .int .u8 0, .slice none 0 0] 28)).alloc (.cells #[.int .u8 3] 45)) (lo := w.heap.size) (RulesW.nil.snoc (x := sanR) (k := 1) (hs.less (by have := SB11.out.1.size; simp at this; omega)) san_fits) (by have := SB11.out.1.size; simp at this ⊢; omega) (by decide)
    simp only [World.size_alloc] at h1
    exact h1.keep (below_box _ _ _)
  have SB12 := Lib.hid (((SB11.out.box #[.int .u8 3] 45).box #[.string ⟨#[97, 98]⟩, .slice (some ⟨X11.heap.size + 1, 0, none⟩) 1 1, .int .u8 63, .int .u8 2, .int .i64 0, .int .i64 1] 43).box #[.int .i64 2, .int .u8 3, .slice (some ⟨X11.heap.size + 1 + 1, 0, none⟩) 1 1] 28)
  refine (format_lit _ 1 _ 2 3 [sanR] _ s_fmtB _ rfl M12.out.rs.1 (by decide) (by decide) (by decide) san_plain (HL.out.keep SB12.out.1)).mono ?_
  rintro e X13 ⟨rfl, hb⟩
  have SB13 := Lib.hid (SB12.out.next hb)
  clear hb SB12 SB11 M12
  have r30 := SB13.out.2.1.cell 0
  have r31 := SB13.out.2.1.cell 1
  have r32 := SB13.out.2.1.cell 2
  simp only [List.getElem?_toArray, List.getElem?_cons_zero, List.getElem?_cons_succ] at r30 r31 r32
  go_wp2_with fail
  refine (valid_lit _ _ _ 1 1 true lettersR s_valid X13 rfl SB13.out.2.2.rs.1 (by decide) SB13.out.2.2.rs.2.2 (by decide)).mono ?_
  rintro e X14 ⟨rfl, hb⟩
  have SB14 := Lib.hid (SB13.out.next hb)
  clear hb SB13 r30 r31 r32
  go_wp2
  go_ret
  exact ⟨rfl, SB14.out.1⟩
end Go.Proofs.YtiedaongfjcbhabGreatDoor
