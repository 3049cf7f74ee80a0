/- Merged by program: Good Make7 -/
import Derived.Test.YtpkdlljefkbmpaaQ10
import Derived.Test.YtpkdlljefkbmpaaQ7
import Derived.Test.YtpkdlljefkbmpaaQ8

/-! Valid tables, purely: what Check says of a valid table in which a rule is replaced. -/
namespace Go.Proofs.Ytpkdlljefkbmpaa
open Go.RowKit

def GoodL (m a : Int) (rs : List Rule) : Prop := numsB m a rs.length = true ∧ (∀ i j (h1 : i < rs.length) (h2 : j < rs.length), i < j → rs[i] ≠ rs[j]) ∧ ∀ x ∈ rs, soundB x m = true
theorem memB_take {rs : List Rule} {y : Rule} {j : Nat} : memB y (rs.take j) = true ↔ ∃ i, ∃ h : i < rs.length, i < j ∧ rs[i] = y := by
 unfold memB
 simp only [decide_eq_true_eq]
 constructor
 ·
  intro h
  obtain ⟨i, hi, e⟩ := List.getElem_of_mem h
  simp only [List.length_take] at hi
  exact ⟨i, by omega, by omega, by rw [← e, List.getElem_take]⟩
 ·
  rintro ⟨i, h, hij, e⟩
  refine List.mem_of_getElem? (i := i) ?_
  rw [List.getElem?_take_of_lt hij, List.getElem?_eq_getElem h, e]
theorem memB_before_no {rs : List Rule} {y : Rule} {j : Nat} (h : ∀ i (hl : i < rs.length), i < j → rs[i] ≠ y) : memB y (rs.take j) = false := by
 cases hb : memB y (rs.take j) with
 | false => rfl
 | true =>
  obtain ⟨i, hl, hij, e⟩ := memB_take.1 hb
  exact absurd e (h i hl hij)
theorem badAt_fine {m : Int} {rs : List Rule} {j : Nat} (hj : j < rs.length) (hs : soundB rs[j] m = true) (hn : ∀ i (hl : i < rs.length), i < j → rs[i] ≠ rs[j]) : badAt m rs j = false := by
 rw [badAt_at (List.getElem?_eq_getElem hj), hs, memB_before_no hn]; rfl
theorem valid_iff {m a : Int} {rs : List Rule} : validB m a rs = true ↔ GoodL m a rs := by
 unfold validB
 rw [chkE_ok]
 constructor
 ·
  intro h
  rw [Bool.and_eq_true] at h
  obtain ⟨hn, hf⟩ := h
  unfold firstB at hf
  rw [Option.isNone_iff_eq_none, List.find?_eq_none] at hf
  have key : ∀ j (hj : j < rs.length), soundB rs[j] m = true ∧ ∀ i (hl : i < rs.length), i < j → rs[i] ≠ rs[j] := by
   intro j hj
   have hb := hf j (List.mem_range.2 hj)
   rw [badAt_at (List.getElem?_eq_getElem hj)] at hb
   simp only [Bool.or_eq_true, not_or, Bool.not_eq_true', Bool.not_eq_false, Bool.not_eq_true] at hb
   refine ⟨hb.1, fun i hl hij e => ?_⟩
   rw [memB_take.2 ⟨i, hl, hij, e⟩] at hb
   exact absurd hb.2 (by decide)
  refine ⟨hn, fun i j h1 h2 hij => (key j h2).2 i h1 hij, fun x hx => ?_⟩
  obtain ⟨j, hj, rfl⟩ := List.getElem_of_mem hx
  exact (key j hj).1
 ·
  rintro ⟨hn, hd, hs⟩
  rw [hn]
  rw [firstB_no fun j hj => badAt_fine hj (hs _ (List.getElem_mem hj)) fun i hl hij => hd i j hl hj hij]
  rfl
section
variable {m a : Int} {rs : List Rule} {i : Nat} {y : Rule}
end
end Go.Proofs.Ytpkdlljefkbmpaa

/-! Reference of the tables: Base(5), and Base. -/
namespace Go.Proofs.Ytpkdlljefkbmpaa
open Go.RowKit

def rowV (x : Rule) (A : Option Addr) (k : Nat) : Array Value := #[.string x.p, .slice A x.c.length k, .int .u8 x.l, .int .u8 x.r, .int .i64 x.f, .int .i64 x.t]
def PtrS (V : World) (y : Nat → Value) (w : World) : Prop := Below V.heap.size V w ∧ (∀ p, y 6 = .pointer (some p) → V.heap.size ≤ p.block ∧ p.block < w.heap.size) ∧ (∀ p, y 7 = .pointer (some p) → V.heap.size ≤ p.block ∧ p.block < w.heap.size) ∧ (∀ p q, y 6 = .pointer (some p) → y 7 = .pointer (some q) → p.block ≠ q.block)
theorem PtrS.start (V : World) : PtrS V (fun _ => undef) V.drew := by
 refine ⟨(Below.refl _ _).drew, ?_, ?_, ?_⟩
 ·
  intro p h; cases h
 ·
  intro p h; cases h
 ·
  intro p q h; cases h
theorem PtrS.other {V w w' : World} {y : Nat → Value} {i : Nat} {v : Value} (h : PtrS V y w) (h6 : i ≠ 6) (h7 : i ≠ 7) (hb : Below w.heap.size w w') : PtrS V (upd y i v) w' := by
 obtain ⟨h0, h1, h2, h3⟩ := h
 have e6 : upd y i v 6 = y 6 := by simp [upd, Ne.symm h6]
 have e7 : upd y i v 7 = y 7 := by simp [upd, Ne.symm h7]
 refine ⟨below_next h0 hb, ?_, ?_, ?_⟩
 ·
  rw [e6]; exact fun p hp => ⟨(h1 p hp).1, Nat.lt_of_lt_of_le (h1 p hp).2 hb.size⟩
 ·
  rw [e7]; exact fun p hp => ⟨(h2 p hp).1, Nat.lt_of_lt_of_le (h2 p hp).2 hb.size⟩
 ·
  rw [e6, e7]; exact h3
theorem PtrS.six {V w : World} {y : Nat → Value} {o : Obj} (h : PtrS V y w) : PtrS V (upd y 6 (.pointer (some ⟨w.heap.size, 0, none⟩))) (w.alloc o) := by
 obtain ⟨h0, h1, h2, h3⟩ := h
 have hs : (w.alloc o).heap.size = w.heap.size + 1 := by simp
 have e6 : upd y 6 (.pointer (some ⟨w.heap.size, 0, none⟩)) 6 = .pointer (some ⟨w.heap.size, 0, none⟩) := by simp [upd]
 have e7 : upd y 6 (.pointer (some ⟨w.heap.size, 0, none⟩)) 7 = y 7 := by simp [upd]
 refine ⟨h0.alloc h0.size _, ?_, ?_, ?_⟩
 ·
  rw [e6]; intro p hp; injection hp with hp; injection hp with hp; subst hp; exact ⟨h0.size, by rw [hs]; exact Nat.lt_succ_self _⟩
 ·
  rw [e7]; exact fun p hp => ⟨(h2 p hp).1, by rw [hs]; have := (h2 p hp).2; omega⟩
 ·
  rw [e6, e7]; intro p q hp hq; injection hp with hp; injection hp with hp; subst hp; have := (h2 q hq).2; show w.heap.size ≠ q.block; omega
theorem PtrS.seven {V w : World} {y : Nat → Value} {o : Obj} (h : PtrS V y w) : PtrS V (upd y 7 (.pointer (some ⟨w.heap.size, 0, none⟩))) (w.alloc o) := by
 obtain ⟨h0, h1, h2, h3⟩ := h
 have hs : (w.alloc o).heap.size = w.heap.size + 1 := by simp
 have e7 : upd y 7 (.pointer (some ⟨w.heap.size, 0, none⟩)) 7 = .pointer (some ⟨w.heap.size, 0, none⟩) := by simp [upd]
 have e6 : upd y 7 (.pointer (some ⟨w.heap.size, 0, none⟩)) 6 = y 6 := by simp [upd]
 refine ⟨h0.alloc h0.size _, ?_, ?_, ?_⟩
 ·
  rw [e6]; exact fun p hp => ⟨(h1 p hp).1, by rw [hs]; have := (h1 p hp).2; omega⟩
 ·
  rw [e7]; intro p hp; injection hp with hp; injection hp with hp; subst hp; exact ⟨h0.size, by rw [hs]; exact Nat.lt_succ_self _⟩
 ·
  rw [e6, e7]; intro p q hp hq; injection hq with hq; injection hq with hq; subst hq; have := (h1 p hp).2; show p.block ≠ w.heap.size; omega

def r5a : Rule := simpleR (strOf [98]) [44] 0 0
def r5b : Rule := simpleR (strOf [99, 97, 98]) [44] 0 0
def r5a' : Rule := ⟨strOf [98], [44], 17, 63, 0, 0⟩
def r5b' : Rule := ⟨strOf [99, 97, 98], [44], 2, 63, 0, 0⟩
def new5R : List Rule := [r5a', r5b', simpleR (strOf [45]) [36] 0 0]
theorem r5a_fits : r5a'.fits := by unfold Rule.fits r5a'; decide +kernel
theorem r5b_fits : r5b'.fits := by unfold Rule.fits r5b'; decide +kernel
def NewPtr (V : World) (v : Value) (w : World) : Prop := ∃ g, v = .pointer (some ⟨g, 0, none⟩) ∧ V.heap.size ≤ g ∧ Blk w g 99 #[.string ⟨#[]⟩, .slice none 0 0, .int .u8 0, .int .u8 0, .int .i64 0, .int .i64 0]
def phi14 (V : World) (lo : Nat) (i : Nat) (v : Value) (w' : World) : Prop := match i with
 | 0 => IsCells lo [44] v w'
 | 1 => v = .agg #[.int .i64 0, .int .i64 0]
 | 2 => IsRule lo r5a v w'
 | 3 => IsCells lo [44] v w'
 | 4 => v = .agg #[.int .i64 0, .int .i64 0]
 | 5 => IsRule lo r5b v w'
 | 6 => NewPtr V v w'
 | 7 => NewPtr V v w'
 | _ => True
def phi16 (l : Value) (lo : Nat) (i : Nat) (v : Value) (w' : World) : Prop := match i with
 | 0 => v = l
 | 1 => IsRule lo r5a' v w'
 | 2 => IsRule lo r5b' v w'
 | 3 => IsCells lo [36] v w'
 | 4 => v = .agg #[.int .i64 0, .int .i64 0]
 | 5 => IsRule lo (simpleR (strOf [45]) [36] 0 0) v w'
 | 6 => NewR lo new5R v w'
 | _ => True
def T14 (V : World) (lo : Nat) (b : Bool) (y : Nat → Value) (w : World) : Prop := ∃ g8 g9 A8 A9 k8 k9, y 6 = .pointer (some ⟨g8, 0, none⟩) ∧ y 7 = .pointer (some ⟨g9, 0, none⟩) ∧ y 5 = .agg (rowV r5b A9 k9) ∧ V.heap.size ≤ g8 ∧ V.heap.size ≤ g9 ∧ g8 ≠ g9 ∧ Below V.heap.size V w ∧ SeqC w lo A8 [44] k8 ∧ SeqC w lo A9 [44] k9 ∧ Blk w g8 99 (rowV r5a A8 k8) ∧ Blk w g9 99 (if b then rowV r5b A9 k9 else #[.string ⟨#[]⟩, .slice none 0 0, .int .u8 0, .int .u8 0, .int .i64 0, .int .i64 0])
set_option maxRecDepth 20000 in
set_option maxHeartbeats 4000000 in
theorem base5_any (kk : Int) (h0 : 0 ≤ kk) (h1 : kk < 256) (hk : kk % 8 = 5) (w : World) : Calls Try.prog 51 #[.int .u8 kk] w (TableEnd 1 1 (lettersR ++ new5R) w) := by
 go_enter Try.func51, Try.ntmps51
 go_wp2_with fail
 refine (letters_any _).mono ?_
 rintro e w1 ⟨v, rfl, hm, hb⟩
 have HP := Lib.hid (pre_of hm hb)
 obtain ⟨A, k, vals, rfl, _⟩ := hm
 clear hb
 go_wp2_with fail
 rw [hk]
 generalize w1.heap.size = z at *
 generalize (((w1.alloc (.cells #[.int .i64 0, .int .i64 0] 157)).alloc (.cells #[.int .i64 0, .int .i64 1] 157)).alloc (.cells #[.int .i64 1, .int .i64 1] 157)).alloc (.cells #[.int .i64 1, .int .i64 0] 157) = V at *
 obtain ⟨hP2, hM, hB4, _, _, _, hBB, hz, hV⟩ := HP.out
 clear HP
 generalize hl : Value.slice A lettersR.length k = l at *
 refine wp_region_two 8 (by kernel_rfl) (fun y => .int .u8 kk :: undef :: .pointer (some ⟨w.heap.size, 0, none⟩) :: l :: .pointer (some ⟨z, 0, none⟩) :: .pointer (some ⟨z + 1, 0, none⟩) :: .pointer (some ⟨z + 1 + 1, 0, none⟩) :: .pointer (some ⟨z + 1 + 1 + 1, 0, none⟩) :: y 6 :: y 7 :: l :: .agg #[.int .i64 0, .int .i64 0] :: .agg #[.int .i64 0, .int .i64 1] :: .agg #[.int .i64 1, .int .i64 1] :: .agg #[.int .i64 1, .int .i64 0] :: .int .u8 kk :: .int .u8 5 :: .bool false :: .bool false :: undef :: undef :: undef :: undef :: undef :: undef :: undef :: undef :: undef :: undef :: undef :: undef :: undef :: undef :: undef :: undef :: .bool false :: .bool false :: undef :: undef :: undef :: undef :: undef :: undef :: undef :: undef :: undef :: undef :: undef :: undef :: undef :: .bool false :: .bool false :: undef :: undef :: undef :: undef :: undef :: undef :: undef :: undef :: undef :: undef :: undef :: undef :: .bool false :: .bool false :: undef :: undef :: undef :: undef :: undef :: undef :: .bool true :: .bool true :: y 0 :: y 1 :: y 2 :: y 3 :: y 4 :: y 5 :: undef :: undef :: undef :: undef :: undef :: undef :: undef :: undef :: undef :: undef :: undef :: undef :: undef :: undef :: undef :: undef :: undef :: undef :: undef :: undef :: undef :: undef :: undef :: undef :: undef :: undef :: undef :: undef :: undef :: undef :: undef :: undef :: undef :: undef :: undef :: undef :: undef :: undef :: undef :: undef :: undef :: []) (fun y => .int .u8 kk :: undef :: .pointer (some ⟨w.heap.size, 0, none⟩) :: l :: .pointer (some ⟨z, 0, none⟩) :: .pointer (some ⟨z + 1, 0, none⟩) :: .pointer (some ⟨z + 1 + 1, 0, none⟩) :: .pointer (some ⟨z + 1 + 1 + 1, 0, none⟩) :: y 6 :: y 7 :: l :: .agg #[.int .i64 0, .int .i64 0] :: .agg #[.int .i64 0, .int .i64 1] :: .agg #[.int .i64 1, .int .i64 1] :: .agg #[.int .i64 1, .int .i64 0] :: .int .u8 kk :: .int .u8 5 :: .bool false :: .bool false :: undef :: undef :: undef :: undef :: undef :: undef :: undef :: undef :: undef :: undef :: undef :: undef :: undef :: undef :: undef :: undef :: .bool false :: .bool false :: undef :: undef :: undef :: undef :: undef :: undef :: undef :: undef :: undef :: undef :: undef :: undef :: undef :: .bool false :: .bool false :: undef :: undef :: undef :: undef :: undef :: undef :: undef :: undef :: undef :: undef :: undef :: undef :: .bool false :: .bool false :: undef :: undef :: undef :: undef :: undef :: undef :: .bool true :: .bool true :: y 0 :: y 1 :: y 2 :: y 3 :: y 4 :: y 5 :: undef :: undef :: undef :: undef :: undef :: undef :: undef :: undef :: undef :: undef :: undef :: undef :: undef :: undef :: undef :: undef :: undef :: undef :: undef :: undef :: undef :: undef :: undef :: undef :: undef :: undef :: undef :: undef :: undef :: undef :: undef :: undef :: undef :: undef :: undef :: undef :: undef :: undef :: undef :: undef :: undef :: []) (fun y => .int .u8 kk :: undef :: .pointer (some ⟨w.heap.size, 0, none⟩) :: l :: .pointer (some ⟨z, 0, none⟩) :: .pointer (some ⟨z + 1, 0, none⟩) :: .pointer (some ⟨z + 1 + 1, 0, none⟩) :: .pointer (some ⟨z + 1 + 1 + 1, 0, none⟩) :: y 6 :: y 7 :: l :: .agg #[.int .i64 0, .int .i64 0] :: .agg #[.int .i64 0, .int .i64 1] :: .agg #[.int .i64 1, .int .i64 1] :: .agg #[.int .i64 1, .int .i64 0] :: .int .u8 kk :: .int .u8 5 :: .bool false :: .bool false :: undef :: undef :: undef :: undef :: undef :: undef :: undef :: undef :: undef :: undef :: undef :: undef :: undef :: undef :: undef :: undef :: .bool false :: .bool false :: undef :: undef :: undef :: undef :: undef :: undef :: undef :: undef :: undef :: undef :: undef :: undef :: undef :: .bool false :: .bool false :: undef :: undef :: undef :: undef :: undef :: undef :: undef :: undef :: undef :: undef :: undef :: undef :: .bool false :: .bool false :: undef :: undef :: undef :: undef :: undef :: undef :: .bool true :: .bool true :: y 0 :: y 1 :: y 2 :: y 3 :: y 4 :: y 5 :: undef :: undef :: undef :: undef :: undef :: undef :: undef :: undef :: undef :: undef :: undef :: undef :: undef :: undef :: undef :: undef :: undef :: undef :: undef :: undef :: undef :: undef :: undef :: undef :: undef :: undef :: undef :: undef :: undef :: undef :: undef :: undef :: undef :: undef :: undef :: undef :: undef :: undef :: undef :: undef :: undef :: [])
  (PtrS V) (phi14 V w.heap.size) (T14 V w.heap.size false) (T14 V w.heap.size true) (fun _ => undef)
  (by kernel_rfl) (by kernel_rfl) (by kernel_rfl) (by kernel_rfl) ?_ (PtrS.start V) [0, 1, 2, 3, 4, 5, 6, 7] (by kernel_rfl) ?_ ?_ ?_ ?_
 ·
  intro i v w1 w2 h hb
  unfold phi14 at h ⊢
  split at h <;> first | exact IsCells.keep h hb | exact IsRule.keep h hb | exact h | (obtain ⟨g, e, hg, hB⟩ := h; exact ⟨g, e, hg, hB.keep hb (Blk.lt hB)⟩)
 ·
  refine allCons ?_ (allCons ?_ (allCons ?_ (allCons ?_ (allCons ?_ (allCons ?_ (allCons ?_ (allCons ?_ allNil)))))))
  all_goals intro y w' K hS hd hK
  ·
   refine wpOp_step rfl (fun K2 hK2 => ?_)
   go_simp
   exact hK2 _ _ (hK _ _ (hS.other (by decide) (by decide) ((Below.refl _ _).alloc (Nat.le_refl _) _)) ((IsCells.new w' 44).less (by have := hS.1.size; omega)) ((Below.refl _ _).alloc (Nat.le_refl _) _))
  ·
   have hq : z < V.heap.size := by omega
   have hQ := Blk.keep hB4 hS.1 hq
   have c0 := hQ.cell 0
   have c1 := hQ.cell 1
   simp at c0 c1
   refine wpOp_step rfl (fun K2 hK2 => ?_)
   go_simp
   exact hK2 _ _ (hK _ _ (hS.other (by decide) (by decide) (Below.refl _ _)) rfl (Below.refl _ _))
  ·
   obtain ⟨A', k', e, hs⟩ := hd 0 rfl
   have e2 : y 1 = _ := hd 1 rfl
   obtain ⟨y, rfl⟩ := upd_at e
   obtain ⟨y, rfl⟩ := upd_at (y := y) (i := 1) e2
   dsimp [upd]
   refine wpOp_step rfl (fun K2 hK2 => ?_)
   go_simp
   refine (simple_any _ _ _ _ _ _ _).mono ?_
   rintro e' w2 ⟨rfl, hb⟩
   exact hK2 _ _ (hK _ _ (hS.other (by decide) (by decide) hb) ⟨A', k', rfl, hs.below hb⟩ hb)
  ·
   refine wpOp_step rfl (fun K2 hK2 => ?_)
   go_simp
   exact hK2 _ _ (hK _ _ (hS.other (by decide) (by decide) ((Below.refl _ _).alloc (Nat.le_refl _) _)) ((IsCells.new w' 44).less (by have := hS.1.size; omega)) ((Below.refl _ _).alloc (Nat.le_refl _) _))
  ·
   have hq : z < V.heap.size := by omega
   have hQ := Blk.keep hB4 hS.1 hq
   have c0 := hQ.cell 0
   have c1 := hQ.cell 1
   simp at c0 c1
   refine wpOp_step rfl (fun K2 hK2 => ?_)
   go_simp
   exact hK2 _ _ (hK _ _ (hS.other (by decide) (by decide) (Below.refl _ _)) rfl (Below.refl _ _))
  ·
   obtain ⟨A', k', e, hs⟩ := hd 3 rfl
   have e2 : y 4 = _ := hd 4 rfl
   obtain ⟨y, rfl⟩ := upd_at e
   obtain ⟨y, rfl⟩ := upd_at (y := y) (i := 4) e2
   dsimp [upd]
   refine wpOp_step rfl (fun K2 hK2 => ?_)
   go_simp
   refine (simple_any _ _ _ _ _ _ _).mono ?_
   rintro e' w2 ⟨rfl, hb⟩
   exact hK2 _ _ (hK _ _ (hS.other (by decide) (by decide) hb) ⟨A', k', rfl, hs.below hb⟩ hb)
  ·
   refine wpOp_step rfl (fun K2 hK2 => ?_)
   go_simp
   exact hK2 _ _ (hK _ _ hS.six ⟨_, rfl, hS.1.size, Blk.new _ _ _⟩ ((Below.refl _ _).alloc (Nat.le_refl _) _))
  ·
   refine wpOp_step rfl (fun K2 hK2 => ?_)
   go_simp
   exact hK2 _ _ (hK _ _ hS.seven ⟨_, rfl, hS.1.size, Blk.new _ _ _⟩ ((Below.refl _ _).alloc (Nat.le_refl _) _))
 ·
  intro y w' K hS hd hK
  obtain ⟨A8, k8, e2, hs8⟩ := hd 2 (by decide)
  obtain ⟨A9, k9, e5, hs9⟩ := hd 5 (by decide)
  obtain ⟨g8, e6, hg8, hB8⟩ := hd 6 (by decide)
  obtain ⟨g9, e7, hg9, hB9⟩ := hd 7 (by decide)
  have hne : g8 ≠ g9 := hS.2.2.2 _ _ e6 e7
  have hS1 := hS.1
  clear hd hS
  obtain ⟨y, rfl⟩ := upd_at e2
  obtain ⟨y, rfl⟩ := upd_at (y := y) (i := 5) e5
  obtain ⟨y, rfl⟩ := upd_at (y := y) (i := 6) e6
  obtain ⟨y, rfl⟩ := upd_at (y := y) (i := 7) e7
  have ac0 := hB8.cell 0
  have af0 := hB8.free 0
  have ac1 := hB8.cell 1
  have af1 := hB8.free 1
  have ac2 := hB8.cell 2
  have af2 := hB8.free 2
  have ac3 := hB8.cell 3
  have af3 := hB8.free 3
  have ac4 := hB8.cell 4
  have af4 := hB8.free 4
  have ac5 := hB8.cell 5
  have af5 := hB8.free 5
  simp only [List.getElem?_toArray, List.getElem?_cons_zero, List.getElem?_cons_succ] at ac0 ac1 ac2 ac3 ac4 ac5
  have hT : T14 V w.heap.size false (upd (upd (upd (upd y 7 (.pointer (some ⟨g9, 0, none⟩))) 6 (.pointer (some ⟨g8, 0, none⟩))) 5 (.agg (rowV r5b A9 k9))) 2 (.agg (rowV r5a A8 k8))) ((((((w'.setCell ⟨g8, 0, none⟩ (.string r5a.p)).setCell ⟨g8, 1, none⟩ (.slice A8 1 k8)).setCell ⟨g8, 2, none⟩ (.int .u8 63)).setCell ⟨g8, 3, none⟩ (.int .u8 63)).setCell ⟨g8, 4, none⟩ (.int .i64 0)).setCell ⟨g8, 5, none⟩ (.int .i64 0)) := by
   refine ⟨g8, g9, A8, A9, k8, k9, rfl, rfl, rfl, hg8, hg9, hne, ?_, ?_, ?_, ?_, ?_⟩
   ·
    exact (((((hS1.setCell hg8 _).setCell hg8 _).setCell hg8 _).setCell hg8 _).setCell hg8 _).setCell hg8 _
   ·
    exact (((((hs8.set hB8 (by decide) _).set (hB8.set 0 _) (by decide) _).set ((hB8.set 0 _).set 1 _) (by decide) _).set (((hB8.set 0 _).set 1 _).set 2 _) (by decide) _).set ((((hB8.set 0 _).set 1 _).set 2 _).set 3 _) (by decide) _).set (((((hB8.set 0 _).set 1 _).set 2 _).set 3 _).set 4 _) (by decide) _
   ·
    exact (((((hs9.set hB8 (by decide) _).set (hB8.set 0 _) (by decide) _).set ((hB8.set 0 _).set 1 _) (by decide) _).set (((hB8.set 0 _).set 1 _).set 2 _) (by decide) _).set ((((hB8.set 0 _).set 1 _).set 2 _).set 3 _) (by decide) _).set (((((hB8.set 0 _).set 1 _).set 2 _).set 3 _).set 4 _) (by decide) _
   ·
    exact (((((hB8.set 0 _).set 1 _).set 2 _).set 3 _).set 4 _).set 5 _
   ·
    exact (Below.heap_setCell _ _ _ _ hne.symm).trans ((Below.heap_setCell _ _ _ _ hne.symm).trans ((Below.heap_setCell _ _ _ _ hne.symm).trans ((Below.heap_setCell _ _ _ _ hne.symm).trans ((Below.heap_setCell _ _ _ _ hne.symm).trans ((Below.heap_setCell _ _ _ _ hne.symm).trans hB9)))))
  dsimp [upd]
  refine wpOp_step rfl (fun K2 hK2 => ?_)
  go_simp
  exact hK2 _ _ (hK _ _ hT)
 ·
  intro y w' K hT hK
  obtain ⟨g8, g9, A8, A9, k8, k9, e6, e7, e5, hg8, hg9, hne, hS1, hs8, hs9, hB8, hB9⟩ := hT
  obtain ⟨y, rfl⟩ := upd_at e5
  obtain ⟨y, rfl⟩ := upd_at (y := y) (i := 6) e6
  obtain ⟨y, rfl⟩ := upd_at (y := y) (i := 7) e7
  have hB9' : Blk w' g9 99 #[.string ⟨#[]⟩, .slice none 0 0, .int .u8 0, .int .u8 0, .int .i64 0, .int .i64 0] := hB9
  have ac0 := hB9'.cell 0
  have af0 := hB9'.free 0
  have ac1 := hB9'.cell 1
  have af1 := hB9'.free 1
  have ac2 := hB9'.cell 2
  have af2 := hB9'.free 2
  have ac3 := hB9'.cell 3
  have af3 := hB9'.free 3
  have ac4 := hB9'.cell 4
  have af4 := hB9'.free 4
  have ac5 := hB9'.cell 5
  have af5 := hB9'.free 5
  simp only [List.getElem?_toArray, List.getElem?_cons_zero, List.getElem?_cons_succ] at ac0 ac1 ac2 ac3 ac4 ac5
  have hT : T14 V w.heap.size true (upd (upd (upd y 7 (.pointer (some ⟨g9, 0, none⟩))) 6 (.pointer (some ⟨g8, 0, none⟩))) 5 (.agg (rowV r5b A9 k9))) ((((((w'.setCell ⟨g9, 0, none⟩ (.string r5b.p)).setCell ⟨g9, 1, none⟩ (.slice A9 1 k9)).setCell ⟨g9, 2, none⟩ (.int .u8 63)).setCell ⟨g9, 3, none⟩ (.int .u8 63)).setCell ⟨g9, 4, none⟩ (.int .i64 0)).setCell ⟨g9, 5, none⟩ (.int .i64 0)) := by
   refine ⟨g8, g9, A8, A9, k8, k9, rfl, rfl, rfl, hg8, hg9, hne, ?_, ?_, ?_, ?_, ?_⟩
   ·
    exact (((((hS1.setCell hg9 _).setCell hg9 _).setCell hg9 _).setCell hg9 _).setCell hg9 _).setCell hg9 _
   ·
    exact (((((hs8.set hB9 (by decide) _).set (hB9.set 0 _) (by decide) _).set ((hB9.set 0 _).set 1 _) (by decide) _).set (((hB9.set 0 _).set 1 _).set 2 _) (by decide) _).set ((((hB9.set 0 _).set 1 _).set 2 _).set 3 _) (by decide) _).set (((((hB9.set 0 _).set 1 _).set 2 _).set 3 _).set 4 _) (by decide) _
   ·
    exact (((((hs9.set hB9 (by decide) _).set (hB9.set 0 _) (by decide) _).set ((hB9.set 0 _).set 1 _) (by decide) _).set (((hB9.set 0 _).set 1 _).set 2 _) (by decide) _).set ((((hB9.set 0 _).set 1 _).set 2 _).set 3 _) (by decide) _).set (((((hB9.set 0 _).set 1 _).set 2 _).set 3 _).set 4 _) (by decide) _
   ·
    exact (Below.heap_setCell _ _ _ _ hne).trans ((Below.heap_setCell _ _ _ _ hne).trans ((Below.heap_setCell _ _ _ _ hne).trans ((Below.heap_setCell _ _ _ _ hne).trans ((Below.heap_setCell _ _ _ _ hne).trans ((Below.heap_setCell _ _ _ _ hne).trans hB8)))))
   ·
    exact (((((hB9'.set 0 _).set 1 _).set 2 _).set 3 _).set 4 _).set 5 _
  dsimp [upd, rowV]
  refine wpOp_step rfl (fun K2 hK2 => ?_)
  go_simp
  exact hK2 _ _ (hK _ _ hT)
 ·
  intro y w' hT
  obtain ⟨g8, g9, A8, A9, k8, k9, e6, e7, e5, hg8, hg9, hne, hS1, hs8, hs9, hB8, hB9⟩ := hT
  obtain ⟨y, rfl⟩ := upd_at (y := y) (i := 6) e6
  obtain ⟨y, rfl⟩ := upd_at (y := y) (i := 7) e7
  dsimp [upd]
  generalize y 0 = t74
  generalize y 1 = t75
  generalize y 2 = t76
  generalize y 3 = t77
  generalize y 4 = t78
  generalize y 5 = t79
  have hB9' : Blk w' g9 99 (rowV r5b A9 k9) := hB9
  have hB8a : Blk (w'.setCell ⟨g8, 2, none⟩ (.int .u8 17)) g8 99 (rowV r5a' A8 k8) := hB8.set 2 _
  have hB8b : Blk ((w'.setCell ⟨g8, 2, none⟩ (.int .u8 17)).setCell ⟨g9, 2, none⟩ (.int .u8 2)) g8 99 (rowV r5a' A8 k8) := (Below.heap_setCell _ _ _ _ hne).trans hB8a
  have hB9a : Blk (w'.setCell ⟨g8, 2, none⟩ (.int .u8 17)) g9 99 (rowV r5b A9 k9) := (Below.heap_setCell _ _ _ _ hne.symm).trans hB9'
  have hB9b : Blk ((w'.setCell ⟨g8, 2, none⟩ (.int .u8 17)).setCell ⟨g9, 2, none⟩ (.int .u8 2)) g9 99 (rowV r5b' A9 k9) := hB9a.set 2 _
  have hs8b : Hid (SeqC ((w'.setCell ⟨g8, 2, none⟩ (.int .u8 17)).setCell ⟨g9, 2, none⟩ (.int .u8 2)) w.heap.size A8 [44] k8) := (hs8.set hB8 (by decide) _).set hB9a (by decide) _
  have hs9b : Hid (SeqC ((w'.setCell ⟨g8, 2, none⟩ (.int .u8 17)).setCell ⟨g9, 2, none⟩ (.int .u8 2)) w.heap.size A9 [44] k9) := (hs9.set hB8 (by decide) _).set hB9a (by decide) _
  have hBV : Hid (Below V.heap.size V ((w'.setCell ⟨g8, 2, none⟩ (.int .u8 17)).setCell ⟨g9, 2, none⟩ (.int .u8 2))) := (hS1.setCell hg8 _).setCell hg9 _
  have c82 := hB8.cell 2
  have f82 := hB8.free 2
  have c92 := hB9a.cell 2
  have f92 := hB9a.free 2
  have c93 := hB9'.cell 2
  have f93 := hB9'.free 2
  simp only [rowV, List.getElem?_toArray, List.getElem?_cons_zero, List.getElem?_cons_succ] at c82 c92 c93
  clear hB8 hB9 hB9' hB8a hB9a hs8 hs9 hS1
  have HB8 := Lib.hid hB8b
  have HB9 := Lib.hid hB9b
  clear hB8b hB9b
  go_wp2_with fail
  generalize (w'.setCell ⟨g8, 2, none⟩ (.int .u8 17)).setCell ⟨g9, 2, none⟩ (.int .u8 2) = X at *
  refine wp_region_app 7 (by kernel_rfl) (fun y u => .int .u8 kk :: undef :: .pointer (some ⟨w.heap.size, 0, none⟩) :: u :: .pointer (some ⟨z, 0, none⟩) :: .pointer (some ⟨z + 1, 0, none⟩) :: .pointer (some ⟨z + 1 + 1, 0, none⟩) :: .pointer (some ⟨z + 1 + 1 + 1, 0, none⟩) :: .pointer (some ⟨g8, 0, none⟩) :: .pointer (some ⟨g9, 0, none⟩) :: l :: .agg #[.int .i64 0, .int .i64 0] :: .agg #[.int .i64 0, .int .i64 1] :: .agg #[.int .i64 1, .int .i64 1] :: .agg #[.int .i64 1, .int .i64 0] :: .int .u8 kk :: .int .u8 5 :: .bool false :: .bool false :: undef :: undef :: undef :: undef :: undef :: undef :: undef :: undef :: undef :: undef :: undef :: undef :: undef :: undef :: undef :: undef :: .bool false :: .bool false :: undef :: undef :: undef :: undef :: undef :: undef :: undef :: undef :: undef :: undef :: undef :: undef :: undef :: .bool false :: .bool false :: undef :: undef :: undef :: undef :: undef :: undef :: undef :: undef :: undef :: undef :: undef :: undef :: .bool false :: .bool false :: undef :: undef :: undef :: undef :: undef :: undef :: .bool true :: .bool true :: t74 :: t75 :: t76 :: t77 :: t78 :: t79 :: .pointer (some ⟨g8, 2, none⟩) :: .pointer (some ⟨g9, 2, none⟩) :: y 0 :: y 1 :: y 2 :: y 3 :: y 4 :: y 5 :: y 6 :: y 7 :: undef :: undef :: undef :: undef :: undef :: undef :: undef :: undef :: undef :: undef :: undef :: undef :: undef :: undef :: undef :: undef :: undef :: undef :: undef :: undef :: undef :: undef :: undef :: undef :: undef :: undef :: undef :: undef :: undef :: undef :: undef :: []) l
   (fun w' => Below X.heap.size X w') (phi16 l w.heap.size) (fun v w' => MadeB w' w.heap.size w.heap.size v (lettersR ++ new5R) ∧ Blk w' w.heap.size 30 #[.int .i64 0, .int .u8 0, .slice none 0 0] ∧ Below w.heap.size w w') (fun _ => undef)
   (by kernel_rfl) (by kernel_rfl) (by kernel_rfl) (by kernel_rfl) ?_ (Below.refl _ _).drew [0, 1, 2, 3, 4, 5, 6] (by kernel_rfl) ?_ ?_ ?_ ?_
  ·
   intro i v w1 w2 h hb
   unfold phi16 at h ⊢
   split at h <;> first | exact IsCells.keep h hb | exact IsRule.keep h hb | exact NewR.keep h hb | exact h
  ·
   refine allCons ?_ (allCons ?_ (allCons ?_ (allCons ?_ (allCons ?_ (allCons ?_ (allCons ?_ allNil))))))
   all_goals intro y w2 K hS hd hK
   ·
    refine wpOp_step rfl (fun K2 hK2 => ?_)
    go_simp
    exact hK2 _ _ (hK _ _ hS rfl (Below.refl _ _))
   ·
    have hQ := HB8.out.keep hS (Blk.lt HB8.out)
    have c0 := hQ.cell 0
    have c1 := hQ.cell 1
    have c2 := hQ.cell 2
    have c3 := hQ.cell 3
    have c4 := hQ.cell 4
    have c5 := hQ.cell 5
    simp only [rowV, List.getElem?_toArray, List.getElem?_cons_zero, List.getElem?_cons_succ] at c0 c1 c2 c3 c4 c5
    refine wpOp_step rfl (fun K2 hK2 => ?_)
    go_simp
    exact hK2 _ _ (hK _ _ hS ⟨A8, k8, rfl, hs8b.out.below hS⟩ (Below.refl _ _))
   ·
    have hQ := HB9.out.keep hS (Blk.lt HB9.out)
    have c0 := hQ.cell 0
    have c1 := hQ.cell 1
    have c2 := hQ.cell 2
    have c3 := hQ.cell 3
    have c4 := hQ.cell 4
    have c5 := hQ.cell 5
    simp only [rowV, List.getElem?_toArray, List.getElem?_cons_zero, List.getElem?_cons_succ] at c0 c1 c2 c3 c4 c5
    refine wpOp_step rfl (fun K2 hK2 => ?_)
    go_simp
    exact hK2 _ _ (hK _ _ hS ⟨A9, k9, rfl, hs9b.out.below hS⟩ (Below.refl _ _))
   ·
    refine wpOp_step rfl (fun K2 hK2 => ?_)
    go_simp
    exact hK2 _ _ (hK _ _ (hS.alloc hS.size _) ((IsCells.new w2 36).less (by have := hS.size; have := hBV.out.size; omega)) ((Below.refl _ _).alloc (Nat.le_refl _) _))
   ·
    have hq : z < V.heap.size := by omega
    have hQ := (Blk.keep hB4 hBV.out hq).keep hS (by have := hBV.out.size; omega)
    have c0 := hQ.cell 0
    have c1 := hQ.cell 1
    simp at c0 c1
    refine wpOp_step rfl (fun K2 hK2 => ?_)
    go_simp
    exact hK2 _ _ (hK _ _ hS rfl (Below.refl _ _))
   ·
    obtain ⟨A', k', e, hs⟩ := hd 3 rfl
    have e2 : y 4 = _ := hd 4 rfl
    obtain ⟨y, rfl⟩ := upd_at e
    obtain ⟨y, rfl⟩ := upd_at (y := y) (i := 4) e2
    dsimp [upd]
    refine wpOp_step rfl (fun K2 hK2 => ?_)
    go_simp
    refine (simple_any _ _ _ _ _ _ _).mono ?_
    rintro e' w3 ⟨rfl, hb⟩
    exact hK2 _ _ (hK _ _ (below_next hS hb) ⟨A', k', rfl, hs.below hb⟩ hb)
   ·
    obtain ⟨B0, k0, e0, h10⟩ := hd 1 rfl
    obtain ⟨B1, k1, e1, h11⟩ := hd 2 rfl
    obtain ⟨B2, k2, e2, h12⟩ := hd 5 rfl
    have hm := NewR.lit (((RulesW.nil.snoc (k := k0) (x := r5a') h10 r5a_fits).snoc (k := k1) (x := r5b') h11 r5b_fits).snoc (k := k2) h12 (simpleR_fits (by decide) (by decide) (by decide) (by decide) (by decide)))
    obtain ⟨y, rfl⟩ := upd_at (y := y) (i := 1) e0
    obtain ⟨y, rfl⟩ := upd_at (y := y) (i := 2) e1
    obtain ⟨y, rfl⟩ := upd_at (y := y) (i := 5) e2
    dsimp [upd]
    refine wpOp_step rfl (fun K2 hK2 => ?_)
    go_simp
    exact hK2 _ _ (hK _ _ (hS.alloc hS.size _) hm ((Below.refl _ _).alloc (Nat.le_refl _) _))
  ·
   intro y w2 K hS hd hK
   have e0 : y 0 = l := hd 0 (by decide)
   have hn : NewR w.heap.size new5R (y 6) w2 := hd 6 (by decide)
   have hsz := hS.size
   have hsv := hBV.out.size
   refine wpOp_append_made rfl rfl _ _ rfl w.heap.size w.heap.size l (y 6) lettersR new5R e0 (MadeB.keep (MadeB.keep (Made.b hM) hBV.out) hS) rfl hn (by decide) (by decide) (by omega) ?_
   intro v' w3 h2 hO
   exact hK _ _ ⟨h2, hO.blk ((hP2.keep hBV.out (by omega)).keep hS (by omega)) (by decide), hBB.trans ((hBV.out.mono (by omega)).trans ((hS.mono (by omega)).trans (hO.below (by omega))))⟩
  ·
   intro y w2 K hK
   refine wpOp_step rfl (fun K2 hK2 => ?_)
   go_simp
   exact hK2 _ _ hK
  ·
   intro y w2 hT
   obtain ⟨hMm, hQ, hBw⟩ := hT
   obtain ⟨A2, k2, e2, hR2, hk2⟩ := hMm.rules
   rw [e2] at hMm
   obtain ⟨y, rfl⟩ := upd_at (y := y) (i := 7) e2
   dsimp [upd]
   have c0 := hQ.cell 0
   have c1 := hQ.cell 1
   have c2 := hQ.cell 2
   have f0 := hQ.free 0
   have f1 := hQ.free 1
   have f2 := hQ.free 2
   simp only [List.getElem?_toArray, List.getElem?_cons_zero, List.getElem?_cons_succ] at c0 c1 c2
   go_wp2_with fail
   refine bodyPost_ret (v := .agg #[.int .i64 1, .int .u8 1, .slice A2 (lettersR ++ new5R).length k2]) (by simp [results, Try.results51, go_sem, c0, c1, c2]) rfl ⟨_, rfl, ?_, ?_⟩
   ·
    exact MadeB.one (MadeB.set (MadeB.set (MadeB.set hMm hQ (by decide) _) (hQ.set 0 _) (by decide) _) ((hQ.set 0 _).set 1 _) (by decide) _) (Nat.le_refl _)
   ·
    exact ((hBw.setCell (Nat.le_refl _) _).setCell (Nat.le_refl _) _).setCell (Nat.le_refl _) _

def baseM (k : Int) : Int := if k = 1 ∨ k = 2 ∨ k = 6 then 2 else 1
def baseA (k : Int) : Int := if k = 1 then 3 else 1
def baseR (k : Int) : List Rule := lettersR ++ (if k = 1 then new1R else if k = 2 then new2R else if k = 3 then new3R else if k = 4 then new4R else if k = 5 then new5R else if k = 6 then new6R else if k = 7 then new7R else [])
theorem base_any (kk : Int) (h0 : 0 ≤ kk) (h1 : kk < 256) (w : World) : Calls Try.prog 51 #[.int .u8 kk] w (TableEnd (baseM (kk % 8)) (baseA (kk % 8)) (baseR (kk % 8)) w) := by
 rcases (by omega : kk % 8 = 0 ∨ kk % 8 = 1 ∨ kk % 8 = 2 ∨ kk % 8 = 3 ∨ kk % 8 = 4 ∨ kk % 8 = 5 ∨ kk % 8 = 6 ∨ kk % 8 = 7) with h | h | h | h | h | h | h | h <;> rw [h]
 ·
  exact base00_any kk h0 h1 h w
 ·
  exact base1_any kk h0 h1 h w
 ·
  exact base2_any kk h0 h1 h w
 ·
  exact base3_any kk h0 h1 h w
 ·
  exact base4_any kk h0 h1 h w
 ·
  exact base5_any kk h0 h1 h w
 ·
  exact base6_any kk h0 h1 h w
 ·
  exact base7_any kk h0 h1 h w
theorem base_good (k : Int) (h : 0 ≤ k ∧ k < 8) : GoodL (baseM k) (baseA k) (baseR k) ∧ (baseR k).length ≤ 8 ∧ (1 ≤ baseM k ∧ baseM k ≤ 2) ∧ (0 ≤ baseA k ∧ baseA k < 256) := by
 rcases (by omega : k = 0 ∨ k = 1 ∨ k = 2 ∨ k = 3 ∨ k = 4 ∨ k = 5 ∨ k = 6 ∨ k = 7) with rfl | rfl | rfl | rfl | rfl | rfl | rfl | rfl
 all_goals exact ⟨valid_iff.1 (by decide +kernel), by decide +kernel, by decide +kernel, by decide +kernel⟩
end Go.Proofs.Ytpkdlljefkbmpaa
