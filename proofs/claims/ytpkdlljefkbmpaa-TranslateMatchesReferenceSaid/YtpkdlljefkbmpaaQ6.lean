/- Merged by program: Make1 Make2 Inv2 Make3 Make4 -/
import Derived.Test.YtpkdlljefkbmpaaQ1
import Derived.Test.YtpkdlljefkbmpaaQ5

/-! Reference of the tables: simple, letters. -/
namespace Go.Proofs.Ytpkdlljefkbmpaa
open Go.RowKit

def SeqC (w : World) (lo : Nat) (A : Option Addr) (xs : List Int) (k : Nat) : Prop := SeqT w lo A xs ∧ xs.length ≤ k
theorem SeqC.mk_ {w : World} {lo k : Nat} {A : Option Addr} {xs : List Int} (h : SeqT w lo A xs) (hk : xs.length ≤ k) : SeqC w lo A xs k := ⟨h, hk⟩
theorem SeqC.below {w w' : World} {lo k : Nat} {A : Option Addr} {xs : List Int} (h : SeqC w lo A xs k) (hb : Below w.heap.size w w') : SeqC w' lo A xs k := ⟨h.1.below hb, h.2⟩
theorem SeqC.less {w : World} {lo lo' k : Nat} {A : Option Addr} {xs : List Int} (h : SeqC w lo A xs k) (hl : lo' ≤ lo) : SeqC w lo' A xs k := ⟨h.1.less hl, h.2⟩
theorem SeqC.seq {w : World} {lo k : Nat} {A : Option Addr} {xs : List Int} (h : SeqC w lo A xs k) : Seq w w.heap.size A xs := h.1.seq
theorem SeqC.move {w w' : World} {lo k : Nat} {A : Option Addr} {xs : List Int} (h : SeqC w lo A xs k) (hk : ∀ b cur, Blk w b 96 cur → w'.heap[b]? = w.heap[b]?) : SeqC w' lo A xs k := ⟨h.1.move hk, h.2⟩
theorem SeqC.set {w : World} {lo q i k : Nat} {A : Option Addr} {xs : List Int} (h : SeqC w lo A xs k) {t : TypeId} {row : Array Value} (hQ : Blk w q t row) (hne : 96 ≠ t) (v : Value) : SeqC (w.setCell ⟨q, i, none⟩ v) lo A xs k := ⟨h.1.set hQ hne v, h.2⟩
theorem own_seqC {w : World} {lo n k : Nat} {A : Option Addr} {xs : List Int} (h : w.ownsRow lo 96 1 (.slice A n k) n (xs.map (Value.int .u8))) : SeqC w lo A xs k := by
 refine ⟨own_seqT h, ?_⟩
 have hl : xs.length = n := by have := h.1; simpa using this
 rcases h.2 with ⟨e, h0⟩ | ⟨g, cap, cur, e, _, _, hc, _⟩
 ·
  injection e with e1 e2 e3; omega
 ·
  injection e with e1 e2 e3; omega
def RulesW (w : World) (lo : Nat) (vals : List Value) (rs : List Rule) : Prop :=
 RulesV w lo vals rs ∧ ∀ (j : Nat) (A : Option Addr) (n k : Nat), vals[j * 6 + 1]? = some (.slice A n k) → n ≤ k
theorem RulesW.nil {w : World} {lo : Nat} : RulesW w lo [] [] := ⟨RulesV.nil, fun j A n k h => by simp at h⟩
theorem RulesW.below {w w' : World} {lo : Nat} {vals : List Value} {rs : List Rule} (h : RulesW w lo vals rs) (hb : Below w.heap.size w w') : RulesW w' lo vals rs := ⟨h.1.below hb, h.2⟩
theorem RulesW.move {w w' : World} {lo : Nat} {vals : List Value} {rs : List Rule} (h : RulesW w lo vals rs) (hk : ∀ b cur, Blk w b 96 cur → w'.heap[b]? = w.heap[b]?) : RulesW w' lo vals rs := ⟨h.1.move hk, h.2⟩
theorem RulesW.set {w : World} {lo q i : Nat} {vals : List Value} {rs : List Rule} (h : RulesW w lo vals rs) {t : TypeId} {row : Array Value} (hQ : Blk w q t row) (hne : 96 ≠ t) (v : Value) : RulesW (w.setCell ⟨q, i, none⟩ v) lo vals rs := ⟨h.1.set hQ hne v, h.2⟩
theorem RulesW.grown {w w' : World} {lo base n : Nat} {v : Value} {xs vals : List Value} {rs : List Rule} (h : RulesW w lo vals rs) (hown : w.ownsRow base 99 6 v n xs) (hg : w.grownBy w' v.ownBlock) : RulesW w' lo vals rs := ⟨h.1.grown hown hg, h.2⟩
theorem RulesW.rules {w : World} {lo base n k : Nat} {A : Option Addr} {vals : List Value} {rs : List Rule} (h : RulesW w lo vals rs) (hown : w.ownsRow base 99 6 (.slice A n k) n vals) : Rules w w.heap.size A rs ∧ n = rs.length ∧ n ≤ k := h.1.rules hown
theorem RulesW.snoc {w : World} {lo k : Nat} {A : Option Addr} {vals : List Value} {rs : List Rule} {x : Rule} (h : RulesW w lo vals rs) (hs : SeqC w lo A x.c k) (hf : x.fits) : RulesW w lo (vals ++ ruleVals A k x) (rs ++ [x]) := by
 refine ⟨h.1.snoc hs.1 hf, fun j A' n' k' hj => ?_⟩
 have hl := h.1.1
 rcases Nat.lt_or_ge (j * 6 + 1) vals.length with g | g
 ·
  rw [List.getElem?_append_left g] at hj
  exact h.2 j A' n' k' hj
 ·
  rw [List.getElem?_append_right g] at hj
  have hlt : j * 6 + 1 - vals.length < 6 := by
   have := (List.getElem?_eq_some_iff.1 hj).1
   simpa [ruleVals] using this
  have e : j * 6 + 1 - vals.length = 1 := by omega
  rw [e] at hj
  have h2 : Value.slice A x.c.length k = Value.slice A' n' k' := by simpa [ruleVals] using hj
  injection h2 with e1 e2 e3
  have := hs.2
  omega
def IsRule (lo : Nat) (x : Rule) (v : Value) (w : World) : Prop := ∃ A k, v = .agg #[.string x.p, .slice A x.c.length k, .int .u8 x.l, .int .u8 x.r, .int .i64 x.f, .int .i64 x.t] ∧ SeqC w lo A x.c k
def IsCells (lo : Nat) (xs : List Int) (v : Value) (w : World) : Prop := ∃ A k, v = .slice A xs.length k ∧ SeqC w lo A xs k
theorem IsRule.keep {lo : Nat} {x : Rule} {v : Value} {w w' : World} (h : IsRule lo x v w) (hb : Below w.heap.size w w') : IsRule lo x v w' := by
 obtain ⟨A, k, e, hs⟩ := h
 exact ⟨A, k, e, hs.below hb⟩
theorem IsCells.keep {lo : Nat} {x : List Int} {v : Value} {w w' : World} (h : IsCells lo x v w) (hb : Below w.heap.size w w') : IsCells lo x v w' := by
 obtain ⟨A, k, e, hs⟩ := h
 exact ⟨A, k, e, hs.below hb⟩
def simpleR (s : ByteArray) (c : List Int) (a b : Int) : Rule := ⟨s, c, 63, 63, a, b⟩
def SimpleEnd (s : ByteArray) (A : Option Addr) (n k : Nat) (a b : Int) (w : World) (e : Ending) (w' : World) : Prop :=
 e = .returned (.agg #[.string s, .slice A n k, .int .u8 63, .int .u8 63, .int .i64 a, .int .i64 b]) ∧ Below w.heap.size w w'
set_option maxRecDepth 10000 in
set_option maxHeartbeats 400000 in
theorem simple_any (s : ByteArray) (A : Option Addr) (n k : Nat) (a b : Int) (w : World) :
  Calls Try.prog 98 #[.string s, .slice A n k, .agg #[.int .i64 a, .int .i64 b]] w (SimpleEnd s A n k a b w) := by
 go_enter Try.func98, Try.ntmps98
 go_wp2
 refine bodyPost_ret (v := .agg #[.string s, .slice A n k, .int .u8 63, .int .u8 63, .int .i64 a, .int .i64 b]) (by simp [results, Try.results98, go_sem]) rfl ⟨rfl, ?_⟩
 exact ((Below.refl _ _).alloc (Nat.le_refl _) _).alloc (by simp) _
def Made (w : World) (lo : Nat) (v : Value) (rs : List Rule) : Prop := ∃ A k vals, v = .slice A rs.length k ∧ w.ownsRow lo 99 6 v rs.length vals ∧ RulesW w lo vals rs
theorem Made.keep {w w' : World} {lo : Nat} {v : Value} {rs : List Rule} (h : Made w lo v rs) (hb : Below w.heap.size w w') : Made w' lo v rs := by
 obtain ⟨A, k, vals, e, ho, hr⟩ := h
 exact ⟨A, k, vals, e, own_keep ho hb, hr.below hb⟩
theorem Made.lit {w : World} {lo : Nat} {vals : List Value} {rs : List Rule} (h : RulesW w lo vals rs) (hlo : lo ≤ w.heap.size) (hm : rs.length ≤ maxLen) :
  Made (w.alloc (.cells vals.toArray 99)) lo (.slice (some ⟨w.heap.size, 0, none⟩) rs.length rs.length) rs :=
 ⟨_, _, vals, rfl, World.ownsRow_lit w vals.toArray rs.length hlo hm (by simpa using h.1.1), h.below (below_box w _ _)⟩
theorem IsCells.less {lo lo' : Nat} {xs : List Int} {v : Value} {w : World} (h : IsCells lo xs v w) (hl : lo' ≤ lo) : IsCells lo' xs v w := by
 obtain ⟨A, k, e, hs⟩ := h
 exact ⟨A, k, e, hs.less hl⟩
theorem simpleR_fits {s : ByteArray} {c : List Int} {a b : Int} (h1 : s.size < 2 ^ 47) (h2 : c.length < 2 ^ 47) (h3 : ∀ z ∈ c, 0 ≤ z ∧ z < 256) (h4 : 0 ≤ a ∧ a < 100) (h5 : 0 ≤ b ∧ b < 100) : (simpleR s c a b).fits :=
 ⟨h1, h2, h3, ⟨by show (0 : Int) ≤ 63; decide, by show (63 : Int) < 256; decide⟩, ⟨by show (0 : Int) ≤ 63; decide, by show (63 : Int) < 256; decide⟩, ⟨by show _ ≤ a; omega, by show a ≤ _; omega⟩, ⟨by show _ ≤ b; omega, by show b ≤ _; omega⟩⟩
def lettersR : List Rule := [simpleR (strOf [97]) [1] 0 0, simpleR (strOf [98]) [3] 0 0, simpleR (strOf [99]) [9] 0 0, simpleR (strOf [32]) [0] 0 0]
def LettersEnd (w : World) (e : Ending) (w' : World) : Prop := ∃ v, e = .returned v ∧ Made w' w.heap.size v lettersR ∧ Below w.heap.size w w'
theorem IsCells.new (w : World) (z : Int) : IsCells w.heap.size [z] (.slice (some ⟨w.heap.size, 0, none⟩) 1 1) (w.alloc (.cells #[.int .u8 z] 96)) :=
 ⟨_, _, rfl, SeqC.mk_ (fun _ => ⟨w.heap.size, 0, rfl, Nat.le_refl _, ⟨_, Blk.new _ _ _⟩, fun j hj => by
  obtain rfl : j = 0 := by simp at hj; omega
  exact (Blk.new w #[.int .u8 z] 96).cell 0⟩) (Nat.le_refl _)⟩
def phiLetters (lo : Nat) (i : Nat) (v : Value) (w' : World) : Prop := match i with
 | 0 => IsCells lo [1] v w'
 | 3 => IsCells lo [3] v w'
 | 6 => IsCells lo [9] v w'
 | 9 => IsCells lo [0] v w'
 | 1 => v = .agg #[.int .i64 0, .int .i64 0]
 | 4 => v = .agg #[.int .i64 0, .int .i64 0]
 | 7 => v = .agg #[.int .i64 0, .int .i64 0]
 | 10 => v = .agg #[.int .i64 0, .int .i64 0]
 | 2 => IsRule lo (simpleR (strOf [97]) [1] 0 0) v w'
 | 5 => IsRule lo (simpleR (strOf [98]) [3] 0 0) v w'
 | 8 => IsRule lo (simpleR (strOf [99]) [9] 0 0) v w'
 | 11 => IsRule lo (simpleR (strOf [32]) [0] 0 0) v w'
 | 12 => Made w' lo v lettersR
 | 13 => Made w' lo v lettersR
 | _ => True
set_option maxRecDepth 10000 in
set_option maxHeartbeats 400000 in
theorem letters_any (w : World) : Calls Try.prog 96 #[] w (LettersEnd w) := by
 go_enter Try.func96, Try.ntmps96
 go_wp2_with fail
 have hV : Hid (Blk (w.alloc (.cells #[.int .i64 0, .int .i64 0] 157)) w.heap.size 157 #[.int .i64 0, .int .i64 0]) := Blk.new _ _ _
 have hBV : Hid (Below w.heap.size w (w.alloc (.cells #[.int .i64 0, .int .i64 0] 157))) := (Below.refl _ _).alloc (Nat.le_refl _) _
 have hsz : (w.alloc (.cells #[.int .i64 0, .int .i64 0] 157)).heap.size = w.heap.size + 1 := by simp
 generalize w.alloc (.cells #[.int .i64 0, .int .i64 0] 157) = V at *
 have cV0 := hV.out.cell 0
 have cV1 := hV.out.cell 1
 simp at cV0 cV1
 refine wp_region_inv (by kernel_rfl) (fun y => [y 13, .pointer (some ⟨w.heap.size, 0, none⟩), .agg #[.int .i64 0, .int .i64 0], y 0, y 1, y 2, y 3, y 4, y 5, y 6, y 7, y 8, y 9, y 10, y 11, y 12])
  (fun w' => Below V.heap.size V w')
  (phiLetters w.heap.size)
  (fun i => if i = 13 then .slice none 0 0 else undef) (by kernel_rfl) ?_ ?_ [0, 1, 2, 3, 4, 5, 6, 7, 8, 9, 10, 11, 12, 13] (by kernel_rfl) ?_ ?_
 ·
  intro i v w1 w2 h hb
  unfold phiLetters at h ⊢
  split at h <;> first | exact IsCells.keep h hb | exact IsRule.keep h hb | exact Made.keep h hb | exact h
 ·
  exact (Below.refl _ _).drew
 ·
  refine allCons ?_ (allCons ?_ (allCons ?_ (allCons ?_ (allCons ?_ (allCons ?_ (allCons ?_ (allCons ?_ (allCons ?_ (allCons ?_ (allCons ?_ (allCons ?_ (allCons ?_ (allCons ?_ allNil)))))))))))))
  all_goals intro y w' K hS hd hK
  ·
   refine wpOp_step rfl (fun K2 hK2 => ?_)
   go_simp
   exact hK2 _ _ (hK _ _ (hS.alloc hS.size _) ((IsCells.new w' 1).less (by have := hS.size; omega)) ((Below.refl _ _).alloc (Nat.le_refl _) _))
  ·
   have c0 : w'.cell? ⟨w.heap.size, 0, none⟩ = some (.int .i64 0) := (hS.cell (p := ⟨w.heap.size, 0, none⟩) (by show w.heap.size < _; omega)).trans cV0
   have c1 : w'.cell? ⟨w.heap.size, 1, none⟩ = some (.int .i64 0) := (hS.cell (p := ⟨w.heap.size, 1, none⟩) (by show w.heap.size < _; omega)).trans cV1
   refine wpOp_step rfl (fun K2 hK2 => ?_)
   go_simp
   exact hK2 _ _ (hK _ _ hS rfl (Below.refl _ _))
  ·
   obtain ⟨A, k, e, hs⟩ := hd 0 rfl
   have e2 : y 1 = _ := hd 1 rfl
   obtain ⟨y, rfl⟩ := upd_at e
   obtain ⟨y, rfl⟩ := upd_at (y := y) (i := 1) e2
   dsimp [upd]
   refine wpOp_step rfl (fun K2 hK2 => ?_)
   go_simp
   refine (simple_any _ _ _ _ _ _ _).mono ?_
   rintro e' w2 ⟨rfl, hb⟩
   exact hK2 _ _ (hK _ _ (below_next hS hb) ⟨A, k, rfl, hs.below hb⟩ hb)
  ·
   refine wpOp_step rfl (fun K2 hK2 => ?_)
   go_simp
   exact hK2 _ _ (hK _ _ (hS.alloc hS.size _) ((IsCells.new w' 3).less (by have := hS.size; omega)) ((Below.refl _ _).alloc (Nat.le_refl _) _))
  ·
   have c0 : w'.cell? ⟨w.heap.size, 0, none⟩ = some (.int .i64 0) := (hS.cell (p := ⟨w.heap.size, 0, none⟩) (by show w.heap.size < _; omega)).trans cV0
   have c1 : w'.cell? ⟨w.heap.size, 1, none⟩ = some (.int .i64 0) := (hS.cell (p := ⟨w.heap.size, 1, none⟩) (by show w.heap.size < _; omega)).trans cV1
   refine wpOp_step rfl (fun K2 hK2 => ?_)
   go_simp
   exact hK2 _ _ (hK _ _ hS rfl (Below.refl _ _))
  ·
   obtain ⟨A, k, e, hs⟩ := hd 3 rfl
   have e2 : y 4 = _ := hd 4 rfl
   obtain ⟨y, rfl⟩ := upd_at e
   obtain ⟨y, rfl⟩ := upd_at (y := y) (i := 4) e2
   dsimp [upd]
   refine wpOp_step rfl (fun K2 hK2 => ?_)
   go_simp
   refine (simple_any _ _ _ _ _ _ _).mono ?_
   rintro e' w2 ⟨rfl, hb⟩
   exact hK2 _ _ (hK _ _ (below_next hS hb) ⟨A, k, rfl, hs.below hb⟩ hb)
  ·
   refine wpOp_step rfl (fun K2 hK2 => ?_)
   go_simp
   exact hK2 _ _ (hK _ _ (hS.alloc hS.size _) ((IsCells.new w' 9).less (by have := hS.size; omega)) ((Below.refl _ _).alloc (Nat.le_refl _) _))
  ·
   have c0 : w'.cell? ⟨w.heap.size, 0, none⟩ = some (.int .i64 0) := (hS.cell (p := ⟨w.heap.size, 0, none⟩) (by show w.heap.size < _; omega)).trans cV0
   have c1 : w'.cell? ⟨w.heap.size, 1, none⟩ = some (.int .i64 0) := (hS.cell (p := ⟨w.heap.size, 1, none⟩) (by show w.heap.size < _; omega)).trans cV1
   refine wpOp_step rfl (fun K2 hK2 => ?_)
   go_simp
   exact hK2 _ _ (hK _ _ hS rfl (Below.refl _ _))
  ·
   obtain ⟨A, k, e, hs⟩ := hd 6 rfl
   have e2 : y 7 = _ := hd 7 rfl
   obtain ⟨y, rfl⟩ := upd_at e
   obtain ⟨y, rfl⟩ := upd_at (y := y) (i := 7) e2
   dsimp [upd]
   refine wpOp_step rfl (fun K2 hK2 => ?_)
   go_simp
   refine (simple_any _ _ _ _ _ _ _).mono ?_
   rintro e' w2 ⟨rfl, hb⟩
   exact hK2 _ _ (hK _ _ (below_next hS hb) ⟨A, k, rfl, hs.below hb⟩ hb)
  ·
   refine wpOp_step rfl (fun K2 hK2 => ?_)
   go_simp
   exact hK2 _ _ (hK _ _ (hS.alloc hS.size _) ((IsCells.new w' 0).less (by have := hS.size; omega)) ((Below.refl _ _).alloc (Nat.le_refl _) _))
  ·
   have c0 : w'.cell? ⟨w.heap.size, 0, none⟩ = some (.int .i64 0) := (hS.cell (p := ⟨w.heap.size, 0, none⟩) (by show w.heap.size < _; omega)).trans cV0
   have c1 : w'.cell? ⟨w.heap.size, 1, none⟩ = some (.int .i64 0) := (hS.cell (p := ⟨w.heap.size, 1, none⟩) (by show w.heap.size < _; omega)).trans cV1
   refine wpOp_step rfl (fun K2 hK2 => ?_)
   go_simp
   exact hK2 _ _ (hK _ _ hS rfl (Below.refl _ _))
  ·
   obtain ⟨A, k, e, hs⟩ := hd 9 rfl
   have e2 : y 10 = _ := hd 10 rfl
   obtain ⟨y, rfl⟩ := upd_at e
   obtain ⟨y, rfl⟩ := upd_at (y := y) (i := 10) e2
   dsimp [upd]
   refine wpOp_step rfl (fun K2 hK2 => ?_)
   go_simp
   refine (simple_any _ _ _ _ _ _ _).mono ?_
   rintro e' w2 ⟨rfl, hb⟩
   exact hK2 _ _ (hK _ _ (below_next hS hb) ⟨A, k, rfl, hs.below hb⟩ hb)
  ·
   obtain ⟨A1, k1, e1, h1⟩ := hd 2 rfl
   obtain ⟨A2, k2, e2, h2⟩ := hd 5 rfl
   obtain ⟨A3, k3, e3, h3⟩ := hd 8 rfl
   obtain ⟨A4, k4, e4, h4⟩ := hd 11 rfl
   have hm := Made.lit ((((RulesW.nil.snoc (k := k1) h1 (simpleR_fits (by decide) (by decide) (by decide) (by decide) (by decide))).snoc (k := k2) h2 (simpleR_fits (by decide) (by decide) (by decide) (by decide) (by decide))).snoc (k := k3) h3 (simpleR_fits (by decide) (by decide) (by decide) (by decide) (by decide))).snoc (k := k4) h4 (simpleR_fits (by decide) (by decide) (by decide) (by decide) (by decide))) (by have := hS.size; omega) (by decide)
   obtain ⟨y, rfl⟩ := upd_at e1
   obtain ⟨y, rfl⟩ := upd_at (y := y) (i := 5) e2
   obtain ⟨y, rfl⟩ := upd_at (y := y) (i := 8) e3
   obtain ⟨y, rfl⟩ := upd_at (y := y) (i := 11) e4
   dsimp [upd]
   refine wpOp_step rfl (fun K2 hK2 => ?_)
   go_simp
   exact hK2 _ _ (hK _ _ (hS.alloc hS.size _) hm ((Below.refl _ _).alloc (Nat.le_refl _) _))
  ·
   have h12 := hd 12 rfl
   refine wpOp_step rfl (fun K2 hK2 => ?_)
   go_simp
   exact hK2 _ _ (hK _ _ hS h12 (Below.refl _ _))
 ·
  intro y w' hS hd
  have h13 := hd 13 (by decide)
  clear hd
  go_wp2
  exact bodyPost_ret (v := y 13) (by simp [results, Try.results96, go_sem]) rfl ⟨y 13, rfl, h13, hBV.out.trans (hS.mono (by omega))⟩
end Go.Proofs.Ytpkdlljefkbmpaa

/-! Reference of the tables: Base(0). -/
namespace Go.Proofs.Ytpkdlljefkbmpaa
open Go.RowKit

theorem RulesV.less {w : World} {lo lo' : Nat} {vals : List Value} {rs : List Rule} (h : RulesV w lo vals rs) (hl : lo' ≤ lo) : RulesV w lo' vals rs :=
 ⟨h.1, fun j hj => by
  obtain ⟨A, k, a0, a1, a2, a3, a4, a5, hs, hf⟩ := h.2 j hj
  exact ⟨A, k, a0, a1, a2, a3, a4, a5, hs.less hl, hf⟩⟩
theorem RulesW.less {w : World} {lo lo' : Nat} {vals : List Value} {rs : List Rule} (h : RulesW w lo vals rs) (hl : lo' ≤ lo) : RulesW w lo' vals rs := ⟨h.1.less hl, h.2⟩
theorem Made.less {lo lo' : Nat} {rs : List Rule} {v : Value} {w : World} (h : Made w lo v rs) (hl : lo' ≤ lo) : Made w lo' v rs := by
 obtain ⟨A, k, vals, e, ho, hr⟩ := h
 refine ⟨A, k, vals, e, ⟨ho.1, ?_⟩, hr.less hl⟩
 rcases ho.2 with h | ⟨g, cap, cur, h1, h2, h3⟩
 ·
  exact .inl h
 ·
  exact .inr ⟨g, cap, cur, h1, Nat.le_trans hl h2, h3⟩
theorem Made.set {w : World} {lo q i : Nat} {rs : List Rule} {v : Value} (h : Made w lo v rs) {t : TypeId} {row : Array Value} (hQ : Blk w q t row) (hne : 99 ≠ t ∧ 96 ≠ t) (u : Value) : Made (w.setCell ⟨q, i, none⟩ u) lo v rs := by
 obtain ⟨A, k, vals, e, ho, hr⟩ := h
 exact ⟨A, k, vals, e, own_set ho hQ hne.1 u, hr.set hQ hne.2 u⟩
def TableEnd (m a : Int) (rs : List Rule) (w : World) (e : Ending) (w' : World) : Prop := ∃ v, e = .returned (.agg #[.int .i64 m, .int .u8 a, v]) ∧ Made w' w.heap.size v rs ∧ Below w.heap.size w w'
end Go.Proofs.Ytpkdlljefkbmpaa

/-! A region that draws its order: operations that only make, then an append onto a row of the call's own, then the assignment. -/
namespace Go.Proofs.Ytpkdlljefkbmpaa
open Go.RowKit

def ClosedB (ops : Array Oper) (b : Nat → Bool) : Prop := ∀ i, i < ops.size → b i = true → ∀ j, (depsOf ops i).contains j = true → b j = true
theorem covered {ops : Array Oper} {N : Nat} {b : Nat → Bool} (hN : N < ops.size)
  (hcov : (List.range N).all (fun i => (List.range (N + 1)).any fun k => decide (i < k) && (depsOf ops k).contains i) = true)
  (hc : ClosedB ops b) (hb : ∀ j, (depsOf ops N).contains j = true → b j = true) : ∀ i, i < N → b i = true := by
 have key : ∀ n i, i < N → N ≤ i + n → b i = true := by
  intro n
  induction n with
  | zero => intro i h1 h2; omega
  | succ n ih =>
   intro i h1 h2
   have h := List.all_eq_true.1 hcov i (List.mem_range.2 h1)
   obtain ⟨k, hk, hd⟩ := List.any_eq_true.1 h
   simp only [Bool.and_eq_true, decide_eq_true_eq] at hd
   have hk' := List.mem_range.1 hk
   by_cases hkN : k = N
   ·
    subst hkN; exact hb i hd.2
   ·
    exact hc k (by omega) (ih k (by omega) (by omega)) i hd.2
 intro i hi
 exact key N i hi (by omega)
theorem mem_deps {ops : Array Oper} {i : Nat} {o : Oper} (ho : ops[i]? = some o) {e : Edge} (he : e ∈ o.after) (hb : Region.binds .any e = true) : (depsOf ops i).contains e.on = true := by
 unfold depsOf
 rw [ho]
 simp only [Option.map_some, Option.getD_some, List.contains_iff_mem, List.mem_map, List.mem_filter]
 exact ⟨e, ⟨by simpa using he, hb⟩, rfl⟩
theorem of_deps {ops : Array Oper} {i j : Nat} (hi : i < ops.size) {b : Nat → Bool} (hd : ∀ o, ops[i]? = some o → ∀ e ∈ o.after, Region.binds .any e = true → b e.on = true) (hj : (depsOf ops i).contains j = true) : b j = true := by
 have ho : ops[i]? = some ops[i] := by simp [hi]
 unfold depsOf at hj
 rw [ho] at hj
 simp only [Option.map_some, Option.getD_some, List.contains_iff_mem, List.mem_map, List.mem_filter] at hj
 obtain ⟨e, ⟨he, hb⟩, rfl⟩ := hj
 exact hd _ ho e (by simpa using he) hb

theorem wp_region_app {P : Program} {id : Nat} {ops : Array Oper} {Q : Exit → Act → World → Prop} {d : List Deferred} {w0 : World} (N : Nat) (hm : P.follows .mixedOrders = true)
  (slots : (Nat → Value) → Value → List Value) (l0 : Value) (S : World → Prop) (φ : Nat → Value → World → Prop) (T : Value → World → Prop) (y0 : Nat → Value)
  (hsz : ops.size = N + 2)
  (hac : (List.range ops.size).all (fun i => (depsOf ops i).all (· < i)) = true)
  (hcov : (List.range N).all (fun i => (List.range (N + 1)).any fun k => decide (i < k) && (depsOf ops k).contains i) = true)
  (hlast : (depsOf ops (N + 1)).contains N = true)
  (hmono : ∀ i v w w', φ i v w → Below w.heap.size w w' → φ i v w')
  (hS : S w0.drew)
  (rs : List Nat) (hrs : List.range N = rs)
  (hop : ∀ i ∈ rs, ∀ (y : Nat → Value) (w : World) (K : Act → World → Prop), S w → (∀ j, (depsOf ops i).contains j = true → φ j (y j) w) →
   (∀ v w', S w' → φ i v w' → Below w.heap.size w w' → K ⟨(slots (upd y i v) l0).toArray, d⟩ w') → wpOp P ops Q i K ⟨(slots y l0).toArray, d⟩ w)
  (happ : ∀ (y : Nat → Value) (w : World) (K : Act → World → Prop), S w → (∀ i, i < N → φ i (y i) w) →
   (∀ v w', T v w' → K ⟨(slots (upd y N v) l0).toArray, d⟩ w') → wpOp P ops Q N K ⟨(slots y l0).toArray, d⟩ w)
  (hasg : ∀ (y : Nat → Value) (w : World) (K : Act → World → Prop), K ⟨(slots y (y N)).toArray, d⟩ w → wpOp P ops Q (N + 1) K ⟨(slots y l0).toArray, d⟩ w)
  (hend : ∀ (y : Nat → Value) (w : World), T (y N) w → Q .normal ⟨(slots y (y N)).toArray, d⟩ w) :
  (Code.region id ops true).wp P Q ⟨(slots y0 l0).toArray, d⟩ w0 := by
 have hlt : ∀ i, i < ops.size → ∀ j, (depsOf ops i).contains j = true → j < i := by
  intro i hi j hj
  have h1 := List.all_eq_true.1 hac i (List.mem_range.2 hi)
  simpa using List.all_eq_true.1 h1 j (by simpa using hj)
 refine wp_region_any hm ?_
 refine wpAny_inv (fun b a w => ClosedB ops b ∧ ∃ y, (b N = false ∧ b (N + 1) = false ∧ a = ⟨(slots y l0).toArray, d⟩ ∧ S w ∧ ∀ i, i < N → b i = true → φ i (y i) w) ∨ (b N = true ∧ (∀ i, i < N → b i = true) ∧ T (y N) w ∧ a = ⟨(slots y (if b (N + 1) then y N else l0)).toArray, d⟩)) ?_ ?_ ?_ _ _ _ _ (by simp) ⟨?_, y0, .inl ⟨by simp [hsz], by simp [hsz], rfl, hS, ?_⟩⟩ (by simp)
 ·
  intro i o ho e he hb
  exact hlt i (Array.getElem?_eq_some_iff.1 ho).1 _ (mem_deps ho he hb)
 ·
  rintro b a w i ⟨hcl, y, h⟩ hi hbi hd
  have hcl' : ClosedB ops (fun j => if j = i then true else b j) := by
   intro k hk hbk j hj
   by_cases hji : j = i
   ·
    simp [hji]
   ·
    simp only [hji, if_false]
    by_cases hki : k = i
    ·
     subst hki; exact of_deps hi hd hj
    ·
     simp only [hki, if_false] at hbk; exact hcl k hk hbk j hj
  rcases h with ⟨hN, hN1, rfl, hSw, hφ⟩ | ⟨hN, hall, hT, rfl⟩
  ·
   by_cases hiN : i < N
   ·
    refine hop i (by rw [← hrs]; exact List.mem_range.2 hiN) y w _ hSw (fun j hj => hφ j (by have := hlt i hi j hj; omega) (of_deps hi hd hj)) (fun v w' hS' hv hb' => ⟨hcl', upd y i v, .inl ⟨?_, ?_, rfl, hS', fun j hjN hj => ?_⟩⟩)
    ·
     simp [show ¬ N = i by omega, hN]
    ·
     simp [show ¬ N + 1 = i by omega, hN1]
    ·
     by_cases hji : j = i
     ·
      subst hji
      have : upd y j v j = v := by simp [upd]
      rw [this]; exact hv
     ·
      have : upd y i v j = y j := by simp [upd, hji]
      rw [this]
      exact hmono j _ w w' (hφ j hjN (by simpa [hji] using hj)) hb'
   ·
    by_cases hie : i = N
    ·
     subst hie
     have hall : ∀ j, j < i → b j = true := covered (by omega) hcov hcl (fun j hj => of_deps hi hd hj)
     refine happ y w _ hSw (fun j hj => hφ j hj (hall j hj)) (fun v w' hT => ⟨hcl', upd y i v, .inr ⟨by simp, fun j hj => by simp [show ¬ j = i by omega, hall j hj], ?_, ?_⟩⟩)
     ·
      have : upd y i v i = v := by simp [upd]
      rw [this]; exact hT
     ·
      simp [hN1]
    ·
     obtain rfl : i = N + 1 := by omega
     have := of_deps hi hd hlast
     rw [hN] at this; cases this
  ·
   by_cases hie : i = N + 1
   ·
    subst hie
    rw [hbi]
    refine hasg y w _ ⟨hcl', y, .inr ⟨by simp [hN], fun j hj => by simp [show ¬ j = N + 1 by omega, hall j hj], hT, by simp⟩⟩
   ·
    exfalso
    rcases Nat.lt_or_ge i N with g | g
    ·
     rw [hall i g] at hbi; cases hbi
    ·
     obtain rfl : i = N := by omega
     rw [hN] at hbi; cases hbi
 ·
  rintro b a w ⟨_, y, h⟩ hall
  rcases h with ⟨hN, _⟩ | ⟨_, _, hT, rfl⟩
  ·
   rw [hall N (by omega)] at hN; cases hN
  ·
   rw [hall (N + 1) (by omega), if_pos rfl]
   exact hend y w hT
 ·
  intro i hi hbi
  simp [hi] at hbi
 ·
  intro i hi hbi
  by_cases h : i < ops.size
  ·
   simp [h] at hbi
  ·
   simp [h] at hbi
end Go.Proofs.Ytpkdlljefkbmpaa

/-! Slices of rules that the call owns: appending to them. -/
namespace Go.Proofs.Ytpkdlljefkbmpaa
open Go.RowKit

def MadeB (w : World) (base lo : Nat) (v : Value) (rs : List Rule) : Prop := ∃ A k vals, v = .slice A rs.length k ∧ w.ownsRow base 99 6 v rs.length vals ∧ RulesW w lo vals rs
def NewR (lo : Nat) (rs : List Rule) (v : Value) (w : World) : Prop := ∃ g vals, v = .slice (some ⟨g, 0, none⟩) rs.length rs.length ∧ Blk w g 99 vals.toArray ∧ RulesW w lo vals rs
theorem Made.b {w : World} {lo : Nat} {v : Value} {rs : List Rule} (h : Made w lo v rs) : MadeB w lo lo v rs := h
theorem MadeB.one {w : World} {base lo : Nat} {v : Value} {rs : List Rule} (h : MadeB w base lo v rs) (hl : lo ≤ base) : Made w lo v rs := by
 obtain ⟨A, k, vals, e, ho, hr⟩ := h
 refine ⟨A, k, vals, e, ⟨ho.1, ?_⟩, hr⟩
 rcases ho.2 with h | ⟨g, cap, cur, h1, h2, h3⟩
 ·
  exact .inl h
 ·
  exact .inr ⟨g, cap, cur, h1, Nat.le_trans hl h2, h3⟩
theorem MadeB.keep {w w' : World} {base lo : Nat} {v : Value} {rs : List Rule} (h : MadeB w base lo v rs) (hb : Below w.heap.size w w') : MadeB w' base lo v rs := by
 obtain ⟨A, k, vals, e, ho, hr⟩ := h
 exact ⟨A, k, vals, e, own_keep ho hb, hr.below hb⟩
theorem MadeB.set {w : World} {base lo q i : Nat} {rs : List Rule} {v : Value} (h : MadeB w base lo v rs) {t : TypeId} {row : Array Value} (hQ : Blk w q t row) (hne : 99 ≠ t ∧ 96 ≠ t) (u : Value) : MadeB (w.setCell ⟨q, i, none⟩ u) base lo v rs := by
 obtain ⟨A, k, vals, e, ho, hr⟩ := h
 exact ⟨A, k, vals, e, own_set ho hQ hne.1 u, hr.set hQ hne.2 u⟩
theorem MadeB.rules {w : World} {base lo : Nat} {v : Value} {rs : List Rule} (h : MadeB w base lo v rs) : ∃ A k, v = .slice A rs.length k ∧ Rules w w.heap.size A rs ∧ rs.length ≤ k := by
 obtain ⟨A, k, vals, rfl, ho, hr⟩ := h
 obtain ⟨h1, _, h3⟩ := hr.rules ho
 exact ⟨A, k, rfl, h1, h3⟩
theorem NewR.keep {w w' : World} {lo : Nat} {v : Value} {rs : List Rule} (h : NewR lo rs v w) (hb : Below w.heap.size w w') : NewR lo rs v w' := by
 obtain ⟨g, vals, e, hB, hr⟩ := h
 exact ⟨g, vals, e, hB.keep hb (Blk.lt hB), hr.below hb⟩
theorem NewR.lit {w : World} {lo : Nat} {vals : List Value} {rs : List Rule} (h : RulesW w lo vals rs) : NewR lo rs (.slice (some ⟨w.heap.size, 0, none⟩) rs.length rs.length) (w.alloc (.cells vals.toArray 99)) :=
 ⟨_, vals, rfl, Blk.new w vals.toArray _, h.below (below_box w _ _)⟩
theorem RulesV.oneCell {w : World} {lo : Nat} {vals : List Value} {rs : List Rule} (h : RulesV w lo vals rs) : ∀ u ∈ vals, u.oneCell' = true := by
 intro u hu
 obtain ⟨i, hi, rfl⟩ := List.getElem_of_mem hu
 have hl := h.1
 obtain ⟨A, k, a0, a1, a2, a3, a4, a5, _, _⟩ := h.2 (i / 6) (by omega)
 have hu2 : vals[i]? = some vals[i] := List.getElem?_eq_getElem hi
 have h6 : i % 6 < 6 := Nat.mod_lt _ (by decide)
 have hdm : i = i / 6 * 6 + i % 6 := by omega
 rcases (by omega : i % 6 = 0 ∨ i % 6 = 1 ∨ i % 6 = 2 ∨ i % 6 = 3 ∨ i % 6 = 4 ∨ i % 6 = 5) with e | e | e | e | e | e
 ·
  rw [show i / 6 * 6 = i by omega, hu2] at a0; injection a0 with a0; rw [a0]; rfl
 ·
  rw [show i / 6 * 6 + 1 = i by omega, hu2] at a1; injection a1 with a1; rw [a1]; rfl
 ·
  rw [show i / 6 * 6 + 2 = i by omega, hu2] at a2; injection a2 with a2; rw [a2]; rfl
 ·
  rw [show i / 6 * 6 + 3 = i by omega, hu2] at a3; injection a3 with a3; rw [a3]; rfl
 ·
  rw [show i / 6 * 6 + 4 = i by omega, hu2] at a4; injection a4 with a4; rw [a4]; rfl
 ·
  rw [show i / 6 * 6 + 5 = i by omega, hu2] at a5; injection a5 with a5; rw [a5]; rfl
theorem RulesV.app {w : World} {lo : Nat} {va vb : List Value} {ra rb : List Rule} (ha : RulesV w lo va ra) (hb : RulesV w lo vb rb) : RulesV w lo (va ++ vb) (ra ++ rb) := by
 obtain ⟨hl, hr⟩ := ha
 obtain ⟨hl2, hr2⟩ := hb
 refine ⟨by simp [hl, hl2, Nat.add_mul], fun j hj => ?_⟩
 rcases Nat.lt_or_ge j ra.length with g | g
 ·
  obtain ⟨A', k', a0, a1, a2, a3, a4, a5, hs', hf'⟩ := hr j g
  have e : (ra ++ rb)[j] = ra[j] := List.getElem_append_left g
  have key : ∀ i u, i < va.length → va[i]? = some u → (va ++ vb)[i]? = some u := fun i u hi hu => by rw [List.getElem?_append_left hi]; exact hu
  rw [e]
  exact ⟨A', k', key _ _ (by omega) a0, key _ _ (by omega) a1, key _ _ (by omega) a2, key _ _ (by omega) a3, key _ _ (by omega) a4, key _ _ (by omega) a5, hs', hf'⟩
 ·
  have hjl : j - ra.length < rb.length := by simp at hj; omega
  obtain ⟨A', k', a0, a1, a2, a3, a4, a5, hs', hf'⟩ := hr2 (j - ra.length) hjl
  have e : (ra ++ rb)[j] = rb[j - ra.length] := List.getElem_append_right g
  have key : ∀ i u, i < 6 → vb[(j - ra.length) * 6 + i]? = some u → (va ++ vb)[j * 6 + i]? = some u := fun i u hi hu => by
   rw [List.getElem?_append_right (by omega), ← hu]
   congr 1; omega
  rw [e]
  exact ⟨A', k', key 0 _ (by omega) a0, key 1 _ (by omega) a1, key 2 _ (by omega) a2, key 3 _ (by omega) a3, key 4 _ (by omega) a4, key 5 _ (by omega) a5, hs', hf'⟩
theorem RulesW.oneCell {w : World} {lo : Nat} {vals : List Value} {rs : List Rule} (h : RulesW w lo vals rs) : ∀ u ∈ vals, u.oneCell' = true := h.1.oneCell
theorem RulesW.app {w : World} {lo : Nat} {va vb : List Value} {ra rb : List Rule} (ha : RulesW w lo va ra) (hb : RulesW w lo vb rb) : RulesW w lo (va ++ vb) (ra ++ rb) := by
 refine ⟨ha.1.app hb.1, fun j A n k hj => ?_⟩
 have hl := ha.1.1
 rcases Nat.lt_or_ge (j * 6 + 1) va.length with g | g
 ·
  rw [List.getElem?_append_left g] at hj
  exact ha.2 j A n k hj
 ·
  rw [List.getElem?_append_right g] at hj
  refine hb.2 (j - ra.length) A n k ?_
  rw [← hj]; congr 1; omega
def Onto (base : Nat) (w w' : World) : Prop := ∃ row, w.grownBy w' row ∧ ∀ j, row = some j → base ≤ j ∧ ∃ cur, Blk w j 99 cur
theorem Onto.blk {base q : Nat} {w w' : World} {t : TypeId} {row : Array Value} (h : Onto base w w') (hQ : Blk w q t row) (hne : 99 ≠ t) : Blk w' q t row := by
 obtain ⟨r, hg, hr⟩ := h
 refine (hg.block q (Blk.lt hQ) fun e => ?_).trans hQ
 obtain ⟨_, cur, hc⟩ := hr q e.symm
 exact Blk.type_ne hc hQ hne rfl
theorem Onto.low {base q : Nat} {w w' : World} {t : TypeId} {row : Array Value} (h : Onto base w w') (hQ : Blk w q t row) (hq : q < base) : Blk w' q t row := by
 obtain ⟨r, hg, hr⟩ := h
 refine (hg.block q (Blk.lt hQ) fun e => ?_).trans hQ
 have := (hr q e.symm).1
 omega
theorem Onto.below {base : Nat} {w w' : World} (h : Onto base w w') (hB : base ≤ w.heap.size) : Below base w w' := by
 obtain ⟨r, hg, hr⟩ := h
 exact (Below.refl _ _).grown hg hB fun j hj => (hr j hj).1
theorem Onto.rulesW {base lo : Nat} {w w' : World} {vals : List Value} {rs : List Rule} (h : Onto base w w') (hr : RulesW w lo vals rs) : RulesW w' lo vals rs := by
 refine hr.move fun b cur hB => ?_
 exact (h.blk hB (by decide)).trans hB.symm
theorem Onto.size {base : Nat} {w w' : World} (h : Onto base w w') : w.heap.size ≤ w'.heap.size := by
 obtain ⟨r, hg, _⟩ := h
 exact hg.size
theorem own_onto {w w' : World} {base n : Nat} {v : Value} {vals : List Value} (ho : w.ownsRow base 99 6 v n vals) (hg : w.grownBy w' v.ownBlock) : Onto base w w' := by
 refine ⟨v.ownBlock, hg, fun j hj => ⟨(ho.lt j hj).1, ?_⟩⟩
 rcases ho.2 with ⟨rfl, _⟩ | ⟨g, cap, cur, rfl, _, hblk, _⟩
 ·
  cases hj
 ·
  have e : g = j := by simpa [Value.ownBlock] using hj
  subst e
  exact ⟨cur, hblk⟩
theorem Made.app {w w' : World} {base lo : Nat} {v' : Value} {vals nv : List Value} {rs new : List Rule} (hr : RulesW w lo vals rs) (hn : RulesW w lo nv new) (h1 : w'.ownsRow base 99 6 v' (rs.length + new.length) (vals ++ nv)) (ho : Onto base w w') (h0 : 0 < new.length) : MadeB w' base lo v' (rs ++ new) := by
 have h2 : w'.ownsRow base 99 6 v' (rs ++ new).length (vals ++ nv) := by rw [List.length_append]; exact h1
 have hl : (rs ++ new).length = rs.length + new.length := List.length_append
 obtain ⟨A, k, e⟩ : ∃ A k, v' = .slice A (rs ++ new).length k := by
  rcases h2.2 with ⟨rfl, h0'⟩ | ⟨g, cap, cur, rfl, _⟩
  ·
   omega
  ·
   exact ⟨_, _, rfl⟩
 exact ⟨A, k, _, e, h2, (ho.rulesW hr).app (ho.rulesW hn)⟩
theorem cell_of_blk {w : World} {g : Nat} {t : TypeId} {vals : List Value} (h : Blk w g t vals.toArray) : ∀ j u, vals[j]? = some u → w.cell? ((⟨g, 0, none⟩ : Addr).add j) = some u := by
 intro j u hu
 rw [add_zero_addr, h.cell j]
 simpa using hu
section
variable {ops : Array Oper}
theorem wpOp_append_made {i : Nat} {o : Oper} {a : Act} {w : World} {K : Act → World → Prop} {Q : Exit → Act → World → Prop} (hi : ops[i]? = some o) (hgd : o.guard = none) (s x : Operand) 
  (ho : o.op = .call { callee := .builtin .append, args := #[s, x], argTypes := #[28, 28] })
  (base lo : Nat) (v u : Value) (rs new : List Rule) (hs : a.eval s = v) (hm : MadeB w base lo v rs) (hx : a.eval x = u) (hn : NewR lo new u w) (hlen : rs.length + new.length ≤ 1000) (h0 : 0 < new.length) (hbase : base ≤ w.heap.size)
  (h : ∀ v' w', MadeB w' base lo v' (rs ++ new) → Onto base w w' → K (a.put o.dst v') w') : wpOp Try.prog ops Q i K a w := by
 obtain ⟨i0, hi0, hz0, hz1, hz2⟩ := info_parts info_rule
 obtain ⟨A, k, vals, e, hown, hr⟩ := hm
 obtain ⟨g, nv, e2, hB, hnr⟩ := hn
 refine wpOp_step hi fun K2 hK2 => ?_
 refine step_append_own hgd s x 28 ho base 99 i0 (.agg #[.string ⟨#[]⟩, .slice none 0 0, .int .u8 0, .int .u8 0, .int .i64 0, .int .i64 0]) 6 64 Try.underlying28 hi0 hz0 hz1 hz2 rfl (by decide) v rs.length vals hs hown ⟨g, 0, none⟩ new.length new.length nv (hx.trans e2) hnr.1.1 (cell_of_blk hB) hnr.oneCell ?_ ?_ hbase ?_
 ·
  unfold maxLen; omega
 ·
  omega
 intro v' w' h1 h2
 have hO := own_onto hown h2
 exact hK2 _ _ (h v' w' (Made.app hr hnr h1 hO h0) hO)
theorem wpList_append_made {rest : List Oper} {o : Oper} {a : Act} {w : World} {Q : Exit → Act → World → Prop} (hgd : o.guard = none) (s x : Operand)
  (ho : o.op = .call { callee := .builtin .append, args := #[s, x], argTypes := #[28, 28] })
  (base lo : Nat) (v u : Value) (rs new : List Rule) (hs : a.eval s = v) (hm : MadeB w base lo v rs) (hx : a.eval x = u) (hn : NewR lo new u w) (hlen : rs.length + new.length ≤ 1000) (h0 : 0 < new.length) (hbase : base ≤ w.heap.size)
  (h : ∀ v' w', MadeB w' base lo v' (rs ++ new) → Onto base w w' → wpList Try.prog ops Q rest (a.put o.dst v') w') : wpList Try.prog ops Q (o :: rest) a w := by
 obtain ⟨i0, hi0, hz0, hz1, hz2⟩ := info_parts info_rule
 obtain ⟨A, k, vals, e, hown, hr⟩ := hm
 obtain ⟨g, nv, e2, hB, hnr⟩ := hn
 refine wpList_append_own w hgd s x 28 ho base 99 i0 (.agg #[.string ⟨#[]⟩, .slice none 0 0, .int .u8 0, .int .u8 0, .int .i64 0, .int .i64 0]) 6 64 Try.underlying28 hi0 hz0 hz1 hz2 rfl (by decide) v rs.length vals hs hown ⟨g, 0, none⟩ new.length new.length nv (hx.trans e2) hnr.1.1 (cell_of_blk hB) hnr.oneCell ?_ ?_ hbase ?_
 ·
  unfold maxLen; omega
 ·
  omega
 intro v' w' h1 h2 _
 have hO := own_onto hown h2
 exact h v' w' (Made.app hr hnr h1 hO h0) hO
end
end Go.Proofs.Ytpkdlljefkbmpaa

/-! Reference of the tables: indicator; Base(1), (2), (6). -/
namespace Go.Proofs.Ytpkdlljefkbmpaa
open Go.RowKit

def indR (c r a b : Int) : Rule := ⟨⟨#[]⟩, [c], 63, r, a, b⟩
theorem indR_fits {c r a b : Int} (h3 : 0 ≤ c ∧ c < 256) (h4 : 0 ≤ r ∧ r < 256) (h5 : 0 ≤ a ∧ a < 100) (h6 : 0 ≤ b ∧ b < 100) : (indR c r a b).fits :=
 ⟨by show (0 : Nat) < _; decide, by show (1 : Nat) < _; decide, by intro z hz; have : z = c := (by simpa [indR] using hz); omega, ⟨by show (0 : Int) ≤ 63; decide, by show (63 : Int) < 256; decide⟩, h4, ⟨by show _ ≤ a; omega, by show a ≤ _; omega⟩, ⟨by show _ ≤ b; omega, by show b ≤ _; omega⟩⟩
theorem IsRule.less {lo lo' : Nat} {x : Rule} {v : Value} {w : World} (h : IsRule lo x v w) (hl : lo' ≤ lo) : IsRule lo' x v w := by
 obtain ⟨A, k, e, hs⟩ := h
 exact ⟨A, k, e, hs.less hl⟩
theorem IsCells.new2 (w : World) (z u : Int) : IsCells w.heap.size [z, u] (.slice (some ⟨w.heap.size, 0, none⟩) 2 2) (w.alloc (.cells #[.int .u8 z, .int .u8 u] 96)) :=
 ⟨_, _, rfl, SeqC.mk_ (fun _ => ⟨w.heap.size, 0, rfl, Nat.le_refl _, ⟨_, Blk.new _ _ _⟩, fun j hj => by
  have hB := Blk.new w #[.int .u8 z, .int .u8 u] 96
  rcases (by simp at hj; omega : j = 0 ∨ j = 1) with rfl | rfl
  ·
   exact hB.cell 0
  ·
   exact hB.cell 1⟩) (Nat.le_refl _)⟩
def Pre (w V : World) (z : Nat) (l : Value) : Prop :=
 Blk V w.heap.size 30 #[.int .i64 0, .int .u8 0, .slice none 0 0] ∧ Made V w.heap.size l lettersR ∧ Blk V z 157 #[.int .i64 0, .int .i64 0] ∧ Blk V (z + 1) 157 #[.int .i64 0, .int .i64 1] ∧ Blk V (z + 1 + 1) 157 #[.int .i64 1, .int .i64 1] ∧ Blk V (z + 1 + 1 + 1) 157 #[.int .i64 1, .int .i64 0] ∧ Below w.heap.size w V ∧ w.heap.size < z ∧ z + 4 ≤ V.heap.size
theorem pre_of {w w1 : World} {l : Value} (hm : Made w1 (w.alloc (.cells #[.int .i64 0, .int .u8 0, .slice none 0 0] 30)).heap.size l lettersR) (hb : Below (w.alloc (.cells #[.int .i64 0, .int .u8 0, .slice none 0 0] 30)).heap.size (w.alloc (.cells #[.int .i64 0, .int .u8 0, .slice none 0 0] 30)) w1) :
  Pre w ((((w1.alloc (.cells #[.int .i64 0, .int .i64 0] 157)).alloc (.cells #[.int .i64 0, .int .i64 1] 157)).alloc (.cells #[.int .i64 1, .int .i64 1] 157)).alloc (.cells #[.int .i64 1, .int .i64 0] 157)) w1.heap.size l := by
 have P1 := (Blk.new w #[.int .i64 0, .int .u8 0, .slice none 0 0] 30).keep hb (by simp)
 have hs1 := hb.size
 simp at hs1
 have hB : Below w.heap.size w w1 := ((Below.refl w.heap.size w).alloc (Nat.le_refl _) (.cells #[.int .i64 0, .int .u8 0, .slice none 0 0] 30)).trans (hb.mono (by simp))
 have hM : Made w1 w.heap.size l lettersR := hm.less (by simp)
 have k1 := below_box w1 #[.int .i64 0, .int .i64 0] 157
 have n1 := Blk.new w1 #[.int .i64 0, .int .i64 0] 157
 have s1 : (w1.alloc (.cells #[.int .i64 0, .int .i64 0] 157)).heap.size = w1.heap.size + 1 := by simp
 generalize w1.alloc (.cells #[.int .i64 0, .int .i64 0] 157) = w2 at *
 have k2 := below_box w2 #[.int .i64 0, .int .i64 1] 157
 have n2 := Blk.new w2 #[.int .i64 0, .int .i64 1] 157
 have s2 : (w2.alloc (.cells #[.int .i64 0, .int .i64 1] 157)).heap.size = w2.heap.size + 1 := by simp
 generalize w2.alloc (.cells #[.int .i64 0, .int .i64 1] 157) = w3 at *
 have k3 := below_box w3 #[.int .i64 1, .int .i64 1] 157
 have n3 := Blk.new w3 #[.int .i64 1, .int .i64 1] 157
 have s3 : (w3.alloc (.cells #[.int .i64 1, .int .i64 1] 157)).heap.size = w3.heap.size + 1 := by simp
 generalize w3.alloc (.cells #[.int .i64 1, .int .i64 1] 157) = w4 at *
 have k4 := below_box w4 #[.int .i64 1, .int .i64 0] 157
 have n4 := Blk.new w4 #[.int .i64 1, .int .i64 0] 157
 have s4 : (w4.alloc (.cells #[.int .i64 1, .int .i64 0] 157)).heap.size = w4.heap.size + 1 := by simp
 generalize w4.alloc (.cells #[.int .i64 1, .int .i64 0] 157) = w5 at *
 have n1' := ((n1.keep k2 (by omega)).keep k3 (by omega)).keep k4 (by omega)
 have n2' := (n2.keep k3 (by omega)).keep k4 (by omega)
 have n3' := n3.keep k4 (by omega)
 rw [s1] at n2'
 rw [s2, s1] at n3'
 rw [s3, s2, s1] at n4
 exact ⟨(((P1.keep k1 (by omega)).keep k2 (by omega)).keep k3 (by omega)).keep k4 (by omega), (((hM.keep k1).keep k2).keep k3).keep k4, n1', n2', n3', n4, below_next (below_next (below_next (below_next hB (k1.mono (Nat.le_refl _))) k2) k3) k4, by omega, by omega⟩
theorem ind_pre (w : World) (c a b : Int) : Below w.heap.size w (((w.alloc (.cells #[.int .i64 a, .int .i64 b] 157)).alloc (.cells #[.string ⟨#[]⟩, .slice none 0 0, .int .u8 0, .int .u8 0, .int .i64 0, .int .i64 0] 99)).alloc (.cells #[.int .u8 c] 96)) ∧
  SeqC (((w.alloc (.cells #[.int .i64 a, .int .i64 b] 157)).alloc (.cells #[.string ⟨#[]⟩, .slice none 0 0, .int .u8 0, .int .u8 0, .int .i64 0, .int .i64 0] 99)).alloc (.cells #[.int .u8 c] 96)) w.heap.size (some ⟨w.heap.size + 1 + 1, 0, none⟩) [c] 1 ∧
  Blk (((w.alloc (.cells #[.int .i64 a, .int .i64 b] 157)).alloc (.cells #[.string ⟨#[]⟩, .slice none 0 0, .int .u8 0, .int .u8 0, .int .i64 0, .int .i64 0] 99)).alloc (.cells #[.int .u8 c] 96)) (w.heap.size + 1) 99 #[.string ⟨#[]⟩, .slice none 0 0, .int .u8 0, .int .u8 0, .int .i64 0, .int .i64 0] ∧
  w.heap.size + 2 < (((w.alloc (.cells #[.int .i64 a, .int .i64 b] 157)).alloc (.cells #[.string ⟨#[]⟩, .slice none 0 0, .int .u8 0, .int .u8 0, .int .i64 0, .int .i64 0] 99)).alloc (.cells #[.int .u8 c] 96)).heap.size := by
 have k0 := below_box w #[.int .i64 a, .int .i64 b] 157
 have s0 : (w.alloc (.cells #[.int .i64 a, .int .i64 b] 157)).heap.size = w.heap.size + 1 := by simp
 generalize w.alloc (.cells #[.int .i64 a, .int .i64 b] 157) = w1 at *
 have k1 := below_box w1 #[.string ⟨#[]⟩, .slice none 0 0, .int .u8 0, .int .u8 0, .int .i64 0, .int .i64 0] 99
 have n1 := Blk.new w1 #[.string ⟨#[]⟩, .slice none 0 0, .int .u8 0, .int .u8 0, .int .i64 0, .int .i64 0] 99
 have s1 : (w1.alloc (.cells #[.string ⟨#[]⟩, .slice none 0 0, .int .u8 0, .int .u8 0, .int .i64 0, .int .i64 0] 99)).heap.size = w1.heap.size + 1 := by simp
 generalize w1.alloc (.cells #[.string ⟨#[]⟩, .slice none 0 0, .int .u8 0, .int .u8 0, .int .i64 0, .int .i64 0] 99) = w2 at *
 have k2 := below_box w2 #[.int .u8 c] 96
 have n2 := IsCells.new w2 c
 have s2 : (w2.alloc (.cells #[.int .u8 c] 96)).heap.size = w2.heap.size + 1 := by simp
 generalize w2.alloc (.cells #[.int .u8 c] 96) = w3 at *
 obtain ⟨A, k, e, hs⟩ := n2
 injection e with e e' e''
 subst e e''
 rw [s0] at n1
 rw [s1, s0] at hs
 exact ⟨below_next (below_next k0 k1) k2, hs.less (by omega), n1.keep k2 (by omega), by omega⟩
set_option maxRecDepth 10000 in
set_option maxHeartbeats 400000 in
theorem indicator1_any (c a b : Int) (_hc : 0 ≤ c ∧ c < 256) (w : World) :
  Calls Try.prog 97 #[.int .u8 c, .int .i64 1, .agg #[.int .i64 a, .int .i64 b]] w fun e w' => ∃ v, e = .returned v ∧ IsRule w.heap.size (indR c 2 a b) v w' ∧ Below w.heap.size w w' := by
 go_enter Try.func97, Try.ntmps97
 go_wp2_with fail
 have hP := Lib.hid (ind_pre w c a b)
 generalize ((w.alloc (.cells #[.int .i64 a, .int .i64 b] 157)).alloc (.cells #[.string ⟨#[]⟩, .slice none 0 0, .int .u8 0, .int .u8 0, .int .i64 0, .int .i64 0] 99)).alloc (.cells #[.int .u8 c] 96) = V at *
 refine (simple_any _ _ _ _ _ _ _).mono ?_
 rintro e w1 ⟨rfl, hb⟩
 obtain ⟨hB, hS, hQ, hz⟩ := hP.out
 have hB1 := Lib.hid (below_next hB hb)
 have hS1 := Lib.hid (hS.below hb)
 have hQ1 := Lib.hid (hQ.keep hb (by omega))
 have hz1 : w.heap.size + 2 < w1.heap.size := by have := hb.size; omega
 clear hP hB hS hQ hb
 have hN := Lib.hid (Blk.new w1 #[.string ⟨#[]⟩, .slice (some ⟨w.heap.size + 1 + 1, 0, none⟩) 1 1, .int .u8 63, .int .u8 2, .int .i64 a, .int .i64 b] 99)
 have hQ2 := Lib.hid (Blk.box (e := 99) (vs := #[.string ⟨#[]⟩, .slice (some ⟨w.heap.size + 1 + 1, 0, none⟩) 1 1, .int .u8 63, .int .u8 2, .int .i64 a, .int .i64 b]) hQ1.out)
 have hB2 := Lib.hid (hB1.out.alloc hB1.out.size (.cells #[.string ⟨#[]⟩, .slice (some ⟨w.heap.size + 1 + 1, 0, none⟩) 1 1, .int .u8 63, .int .u8 2, .int .i64 a, .int .i64 b] 99))
 have hS2 := Lib.hid (hS1.out.below (below_box w1 #[.string ⟨#[]⟩, .slice (some ⟨w.heap.size + 1 + 1, 0, none⟩) 1 1, .int .u8 63, .int .u8 2, .int .i64 a, .int .i64 b] 99))
 obtain ⟨q, hq⟩ : ∃ q, w1.heap.size = q := ⟨_, rfl⟩
 rw [hq] at hN
 clear hS1 hQ1 hB1
 have x0 := hN.out.cell 0
 have x1 := hN.out.cell 1
 have x2 := hN.out.cell 2
 have x3 := hN.out.cell 3
 have x4 := hN.out.cell 4
 have x5 := hN.out.cell 5
 have y3 := hN.out.free 3
 have r0 := hQ2.out.cell 0
 have r1 := hQ2.out.cell 1
 have r2 := hQ2.out.cell 2
 have r3 := hQ2.out.cell 3
 have r4 := hQ2.out.cell 4
 have r5 := hQ2.out.cell 5
 have s0 := hQ2.out.free 0
 have s1 := hQ2.out.free 1
 have s2 := hQ2.out.free 2
 have s3 := hQ2.out.free 3
 have s4 := hQ2.out.free 4
 have s5 := hQ2.out.free 5
 simp only [List.getElem?_toArray, List.getElem?_cons_zero, List.getElem?_cons_succ] at x0 x1 x2 x3 x4 x5 r0 r1 r2 r3 r4 r5
 go_wp2_with fail
 generalize w1.alloc (.cells #[.string ⟨#[]⟩, .slice (some ⟨w.heap.size + 1 + 1, 0, none⟩) 1 1, .int .u8 63, .int .u8 2, .int .i64 a, .int .i64 b] 99) = X at *
 refine bodyPost_ret (v := .agg #[.string ⟨#[]⟩, .slice (some ⟨w.heap.size + 1 + 1, 0, none⟩) 1 1, .int .u8 63, .int .u8 2, .int .i64 a, .int .i64 b]) (by simp [results, Try.results97, go_sem, r0, r1, r2, r3, r4, r5]) rfl ⟨_, rfl, ⟨_, _, rfl, ?_⟩, ?_⟩
 ·
  exact (((((hS2.out.set hQ2.out (by decide) _).set (hQ2.out.set 0 _) (by decide) _).set ((hQ2.out.set 0 _).set 1 _) (by decide) _).set (((hQ2.out.set 0 _).set 1 _).set 2 _) (by decide) _).set ((((hQ2.out.set 0 _).set 1 _).set 2 _).set 3 _) (by decide) _).set (((((hQ2.out.set 0 _).set 1 _).set 2 _).set 3 _).set 4 _) (by decide) _
 ·
  exact (((((hB2.out.setCell (by show w.heap.size ≤ w.heap.size + 1; omega) _).setCell (by show w.heap.size ≤ w.heap.size + 1; omega) _).setCell (by show w.heap.size ≤ w.heap.size + 1; omega) _).setCell (by show w.heap.size ≤ w.heap.size + 1; omega) _).setCell (by show w.heap.size ≤ w.heap.size + 1; omega) _).setCell (by show w.heap.size ≤ w.heap.size + 1; omega) _
set_option maxRecDepth 10000 in
set_option maxHeartbeats 400000 in
theorem indicator2_any (c a b : Int) (_hc : 0 ≤ c ∧ c < 256) (w : World) :
  Calls Try.prog 97 #[.int .u8 c, .int .i64 2, .agg #[.int .i64 a, .int .i64 b]] w fun e w' => ∃ v, e = .returned v ∧ IsRule w.heap.size (indR c 4 a b) v w' ∧ Below w.heap.size w w' := by
 go_enter Try.func97, Try.ntmps97
 go_wp2_with fail
 have hP := Lib.hid (ind_pre w c a b)
 generalize ((w.alloc (.cells #[.int .i64 a, .int .i64 b] 157)).alloc (.cells #[.string ⟨#[]⟩, .slice none 0 0, .int .u8 0, .int .u8 0, .int .i64 0, .int .i64 0] 99)).alloc (.cells #[.int .u8 c] 96) = V at *
 refine (simple_any _ _ _ _ _ _ _).mono ?_
 rintro e w1 ⟨rfl, hb⟩
 obtain ⟨hB, hS, hQ, hz⟩ := hP.out
 have hB1 := Lib.hid (below_next hB hb)
 have hS1 := Lib.hid (hS.below hb)
 have hQ1 := Lib.hid (hQ.keep hb (by omega))
 have hz1 : w.heap.size + 2 < w1.heap.size := by have := hb.size; omega
 clear hP hB hS hQ hb
 have hN := Lib.hid (Blk.new w1 #[.string ⟨#[]⟩, .slice (some ⟨w.heap.size + 1 + 1, 0, none⟩) 1 1, .int .u8 63, .int .u8 4, .int .i64 a, .int .i64 b] 99)
 have hQ2 := Lib.hid (Blk.box (e := 99) (vs := #[.string ⟨#[]⟩, .slice (some ⟨w.heap.size + 1 + 1, 0, none⟩) 1 1, .int .u8 63, .int .u8 4, .int .i64 a, .int .i64 b]) hQ1.out)
 have hB2 := Lib.hid (hB1.out.alloc hB1.out.size (.cells #[.string ⟨#[]⟩, .slice (some ⟨w.heap.size + 1 + 1, 0, none⟩) 1 1, .int .u8 63, .int .u8 4, .int .i64 a, .int .i64 b] 99))
 have hS2 := Lib.hid (hS1.out.below (below_box w1 #[.string ⟨#[]⟩, .slice (some ⟨w.heap.size + 1 + 1, 0, none⟩) 1 1, .int .u8 63, .int .u8 4, .int .i64 a, .int .i64 b] 99))
 obtain ⟨q, hq⟩ : ∃ q, w1.heap.size = q := ⟨_, rfl⟩
 rw [hq] at hN
 clear hS1 hQ1 hB1
 have x0 := hN.out.cell 0
 have x1 := hN.out.cell 1
 have x2 := hN.out.cell 2
 have x3 := hN.out.cell 3
 have x4 := hN.out.cell 4
 have x5 := hN.out.cell 5
 have y3 := hN.out.free 3
 have r0 := hQ2.out.cell 0
 have r1 := hQ2.out.cell 1
 have r2 := hQ2.out.cell 2
 have r3 := hQ2.out.cell 3
 have r4 := hQ2.out.cell 4
 have r5 := hQ2.out.cell 5
 have s0 := hQ2.out.free 0
 have s1 := hQ2.out.free 1
 have s2 := hQ2.out.free 2
 have s3 := hQ2.out.free 3
 have s4 := hQ2.out.free 4
 have s5 := hQ2.out.free 5
 simp only [List.getElem?_toArray, List.getElem?_cons_zero, List.getElem?_cons_succ] at x0 x1 x2 x3 x4 x5 r0 r1 r2 r3 r4 r5
 go_wp2_with fail
 generalize w1.alloc (.cells #[.string ⟨#[]⟩, .slice (some ⟨w.heap.size + 1 + 1, 0, none⟩) 1 1, .int .u8 63, .int .u8 4, .int .i64 a, .int .i64 b] 99) = X at *
 refine bodyPost_ret (v := .agg #[.string ⟨#[]⟩, .slice (some ⟨w.heap.size + 1 + 1, 0, none⟩) 1 1, .int .u8 63, .int .u8 4, .int .i64 a, .int .i64 b]) (by simp [results, Try.results97, go_sem, r0, r1, r2, r3, r4, r5]) rfl ⟨_, rfl, ⟨_, _, rfl, ?_⟩, ?_⟩
 ·
  exact (((((hS2.out.set hQ2.out (by decide) _).set (hQ2.out.set 0 _) (by decide) _).set ((hQ2.out.set 0 _).set 1 _) (by decide) _).set (((hQ2.out.set 0 _).set 1 _).set 2 _) (by decide) _).set ((((hQ2.out.set 0 _).set 1 _).set 2 _).set 3 _) (by decide) _).set (((((hQ2.out.set 0 _).set 1 _).set 2 _).set 3 _).set 4 _) (by decide) _
 ·
  exact (((((hB2.out.setCell (by show w.heap.size ≤ w.heap.size + 1; omega) _).setCell (by show w.heap.size ≤ w.heap.size + 1; omega) _).setCell (by show w.heap.size ≤ w.heap.size + 1; omega) _).setCell (by show w.heap.size ≤ w.heap.size + 1; omega) _).setCell (by show w.heap.size ≤ w.heap.size + 1; omega) _).setCell (by show w.heap.size ≤ w.heap.size + 1; omega) _
set_option maxRecDepth 10000 in
set_option maxHeartbeats 400000 in
theorem indicator3_any (c a b : Int) (_hc : 0 ≤ c ∧ c < 256) (w : World) :
  Calls Try.prog 97 #[.int .u8 c, .int .i64 3, .agg #[.int .i64 a, .int .i64 b]] w fun e w' => ∃ v, e = .returned v ∧ IsRule w.heap.size (indR c 8 a b) v w' ∧ Below w.heap.size w w' := by
 go_enter Try.func97, Try.ntmps97
 go_wp2_with fail
 have hP := Lib.hid (ind_pre w c a b)
 generalize ((w.alloc (.cells #[.int .i64 a, .int .i64 b] 157)).alloc (.cells #[.string ⟨#[]⟩, .slice none 0 0, .int .u8 0, .int .u8 0, .int .i64 0, .int .i64 0] 99)).alloc (.cells #[.int .u8 c] 96) = V at *
 refine (simple_any _ _ _ _ _ _ _).mono ?_
 rintro e w1 ⟨rfl, hb⟩
 obtain ⟨hB, hS, hQ, hz⟩ := hP.out
 have hB1 := Lib.hid (below_next hB hb)
 have hS1 := Lib.hid (hS.below hb)
 have hQ1 := Lib.hid (hQ.keep hb (by omega))
 have hz1 : w.heap.size + 2 < w1.heap.size := by have := hb.size; omega
 clear hP hB hS hQ hb
 have hN := Lib.hid (Blk.new w1 #[.string ⟨#[]⟩, .slice (some ⟨w.heap.size + 1 + 1, 0, none⟩) 1 1, .int .u8 63, .int .u8 8, .int .i64 a, .int .i64 b] 99)
 have hQ2 := Lib.hid (Blk.box (e := 99) (vs := #[.string ⟨#[]⟩, .slice (some ⟨w.heap.size + 1 + 1, 0, none⟩) 1 1, .int .u8 63, .int .u8 8, .int .i64 a, .int .i64 b]) hQ1.out)
 have hB2 := Lib.hid (hB1.out.alloc hB1.out.size (.cells #[.string ⟨#[]⟩, .slice (some ⟨w.heap.size + 1 + 1, 0, none⟩) 1 1, .int .u8 63, .int .u8 8, .int .i64 a, .int .i64 b] 99))
 have hS2 := Lib.hid (hS1.out.below (below_box w1 #[.string ⟨#[]⟩, .slice (some ⟨w.heap.size + 1 + 1, 0, none⟩) 1 1, .int .u8 63, .int .u8 8, .int .i64 a, .int .i64 b] 99))
 obtain ⟨q, hq⟩ : ∃ q, w1.heap.size = q := ⟨_, rfl⟩
 rw [hq] at hN
 clear hS1 hQ1 hB1
 have x0 := hN.out.cell 0
 have x1 := hN.out.cell 1
 have x2 := hN.out.cell 2
 have x3 := hN.out.cell 3
 have x4 := hN.out.cell 4
 have x5 := hN.out.cell 5
 have y3 := hN.out.free 3
 have r0 := hQ2.out.cell 0
 have r1 := hQ2.out.cell 1
 have r2 := hQ2.out.cell 2
 have r3 := hQ2.out.cell 3
 have r4 := hQ2.out.cell 4
 have r5 := hQ2.out.cell 5
 have s0 := hQ2.out.free 0
 have s1 := hQ2.out.free 1
 have s2 := hQ2.out.free 2
 have s3 := hQ2.out.free 3
 have s4 := hQ2.out.free 4
 have s5 := hQ2.out.free 5
 simp only [List.getElem?_toArray, List.getElem?_cons_zero, List.getElem?_cons_succ] at x0 x1 x2 x3 x4 x5 r0 r1 r2 r3 r4 r5
 go_wp2_with fail
 generalize w1.alloc (.cells #[.string ⟨#[]⟩, .slice (some ⟨w.heap.size + 1 + 1, 0, none⟩) 1 1, .int .u8 63, .int .u8 8, .int .i64 a, .int .i64 b] 99) = X at *
 refine bodyPost_ret (v := .agg #[.string ⟨#[]⟩, .slice (some ⟨w.heap.size + 1 + 1, 0, none⟩) 1 1, .int .u8 63, .int .u8 8, .int .i64 a, .int .i64 b]) (by simp [results, Try.results97, go_sem, r0, r1, r2, r3, r4, r5]) rfl ⟨_, rfl, ⟨_, _, rfl, ?_⟩, ?_⟩
 ·
  exact (((((hS2.out.set hQ2.out (by decide) _).set (hQ2.out.set 0 _) (by decide) _).set ((hQ2.out.set 0 _).set 1 _) (by decide) _).set (((hQ2.out.set 0 _).set 1 _).set 2 _) (by decide) _).set ((((hQ2.out.set 0 _).set 1 _).set 2 _).set 3 _) (by decide) _).set (((((hQ2.out.set 0 _).set 1 _).set 2 _).set 3 _).set 4 _) (by decide) _
 ·
  exact (((((hB2.out.setCell (by show w.heap.size ≤ w.heap.size + 1; omega) _).setCell (by show w.heap.size ≤ w.heap.size + 1; omega) _).setCell (by show w.heap.size ≤ w.heap.size + 1; omega) _).setCell (by show w.heap.size ≤ w.heap.size + 1; omega) _).setCell (by show w.heap.size ≤ w.heap.size + 1; omega) _).setCell (by show w.heap.size ≤ w.heap.size + 1; omega) _
end Go.Proofs.Ytpkdlljefkbmpaa
