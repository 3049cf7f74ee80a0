/- Reference of the tables: simple, letters. -/
import Derived.Test.YtiedaongfjcbhaaInv
import Derived.Test.YtiedaongfjcbhaaPar7
namespace Go.Proofs.Ytiedaongfjcbhaa
open Go.RowKit

/-- Cells in memory, and room for them in the slice that shows them. -/
def SeqC (w : World) (lo : Nat) (A : Option Addr) (xs : List Int) (k : Nat) : Prop := SeqT w lo A xs ∧ xs.length ≤ k
theorem SeqC.mk_ {w : World} {lo k : Nat} {A : Option Addr} {xs : List Int} (h : SeqT w lo A xs) (hk : xs.length ≤ k) : SeqC w lo A xs k := ⟨h, hk⟩
theorem SeqC.below {w w' : World} {lo k : Nat} {A : Option Addr} {xs : List Int} (h : SeqC w lo A xs k) (hb : Below w.heap.size w w') : SeqC w' lo A xs k := ⟨h.1.below hb, h.2⟩
theorem SeqC.less {w : World} {lo lo' k : Nat} {A : Option Addr} {xs : List Int} (h : SeqC w lo A xs k) (hl : lo' ≤ lo) : SeqC w lo' A xs k := ⟨h.1.less hl, h.2⟩
theorem SeqC.seq {w : World} {lo k : Nat} {A : Option Addr} {xs : List Int} (h : SeqC w lo A xs k) : Seq w w.heap.size A xs := h.1.seq
theorem SeqC.move {w w' : World} {lo k : Nat} {A : Option Addr} {xs : List Int} (h : SeqC w lo A xs k) (hk : ∀ b cur, Blk w b 64 cur → w'.heap[b]? = w.heap[b]?) : SeqC w' lo A xs k := ⟨h.1.move hk, h.2⟩
theorem SeqC.set {w : World} {lo q i k : Nat} {A : Option Addr} {xs : List Int} (h : SeqC w lo A xs k) {t : TypeId} {row : Array Value} (hQ : Blk w q t row) (hne : 64 ≠ t) (v : Value) : SeqC (w.setCell ⟨q, i, none⟩ v) lo A xs k := ⟨h.1.set hQ hne v, h.2⟩
theorem own_seqC {w : World} {lo n k : Nat} {A : Option Addr} {xs : List Int} (h : w.ownsRow lo 64 1 (.slice A n k) n (xs.map (Value.int .u8))) : SeqC w lo A xs k := by
  refine ⟨own_seqT h, ?_⟩
  have hl : xs.length = n := by have := h.1; simpa using this
  rcases h.2 with ⟨e, h0⟩ | ⟨g, cap, cur, e, _, _, hc, _⟩
  · injection e with e1 e2 e3; omega
  · injection e with e1 e2 e3; omega
/-- The cells of rules, one behind the other, each slice with room for what it shows. -/
def RulesW (w : World) (lo : Nat) (vals : List Value) (rs : List Rule) : Prop :=
  RulesV w lo vals rs ∧ ∀ (j : Nat) (A : Option Addr) (n k : Nat), vals[j * 6 + 1]? = some (.slice A n k) → n ≤ k
theorem RulesW.nil {w : World} {lo : Nat} : RulesW w lo [] [] := ⟨RulesV.nil, fun j A n k h => by simp at h⟩
theorem RulesW.below {w w' : World} {lo : Nat} {vals : List Value} {rs : List Rule} (h : RulesW w lo vals rs) (hb : Below w.heap.size w w') : RulesW w' lo vals rs := ⟨h.1.below hb, h.2⟩
theorem RulesW.move {w w' : World} {lo : Nat} {vals : List Value} {rs : List Rule} (h : RulesW w lo vals rs) (hk : ∀ b cur, Blk w b 64 cur → w'.heap[b]? = w.heap[b]?) : RulesW w' lo vals rs := ⟨h.1.move hk, h.2⟩
theorem RulesW.set {w : World} {lo q i : Nat} {vals : List Value} {rs : List Rule} (h : RulesW w lo vals rs) {t : TypeId} {row : Array Value} (hQ : Blk w q t row) (hne : 64 ≠ t) (v : Value) : RulesW (w.setCell ⟨q, i, none⟩ v) lo vals rs := ⟨h.1.set hQ hne v, h.2⟩
theorem RulesW.grown {w w' : World} {lo base n : Nat} {v : Value} {xs vals : List Value} {rs : List Rule} (h : RulesW w lo vals rs) (hown : w.ownsRow base 55 6 v n xs) (hg : w.grownBy w' v.ownBlock) : RulesW w' lo vals rs := ⟨h.1.grown hown hg, h.2⟩
theorem RulesW.rules {w : World} {lo base n k : Nat} {A : Option Addr} {vals : List Value} {rs : List Rule} (h : RulesW w lo vals rs) (hown : w.ownsRow base 55 6 (.slice A n k) n vals) : Rules w w.heap.size A rs ∧ n = rs.length ∧ n ≤ k := h.1.rules hown
theorem RulesW.snoc {w : World} {lo k : Nat} {A : Option Addr} {vals : List Value} {rs : List Rule} {x : Rule} (h : RulesW w lo vals rs) (hs : SeqC w lo A x.c k) (hf : x.fits) : RulesW w lo (vals ++ ruleVals A k x) (rs ++ [x]) := by
  refine ⟨h.1.snoc hs.1 hf, fun j A' n' k' hj => ?_⟩
  have hl := h.1.1
  rcases Nat.lt_or_ge (j * 6 + 1) vals.length with g | g
  · rw [List.getElem?_append_left g] at hj
    exact h.2 j A' n' k' hj
  · rw [List.getElem?_append_right g] at hj
    have hlt : j * 6 + 1 - vals.length < 6 := by
      have := (List.getElem?_eq_some_iff.1 hj).1
      simpa [ruleVals] using this
    have e : j * 6 + 1 - vals.length = 1 := by omega
    rw [e] at hj
    have h2 : Value.slice A x.c.length k = Value.slice A' n' k' := by simpa [ruleVals] using hj
    injection h2 with e1 e2 e3
    have := hs.2
    omega
def IsRule (lo : Nat) (x : Rule) (v : Value) (w : World) : Prop := ∃ A k, v = .agg #[.string x.p, .slice A x.c.length k, .int .u8 x.l, .int .u8 x.r, .int .i64 x.f, .int .i64 x.t] ∧ SeqC w lo A x.c k
def IsCells (lo : Nat) (xs : List Int) (v : Value) (w : World) : Prop := ∃ A k, v = .slice A xs.length k ∧ SeqC w lo A xs k
theorem IsRule.keep {lo : Nat} {x : Rule} {v : Value} {w w' : World} (h : IsRule lo x v w) (hb : Below w.heap.size w w') : IsRule lo x v w' := by
  obtain ⟨A, k, e, hs⟩ := h
  exact ⟨A, k, e, hs.below hb⟩
theorem IsCells.keep {lo : Nat} {x : List Int} {v : Value} {w w' : World} (h : IsCells lo x v w) (hb : Below w.heap.size w w') : IsCells lo x v w' := by
  obtain ⟨A, k, e, hs⟩ := h
  exact ⟨A, k, e, hs.below hb⟩
def simpleR (s : ByteArray) (c : List Int) (a b : Int) : Rule := ⟨s, c, 63, 63, a, b⟩
def SimpleEnd (s : ByteArray) (A : Option Addr) (n k : Nat) (a b : Int) (w : World) (e : Ending) (w' : World) : Prop :=
  e = .returned (.agg #[.string s, .slice A n k, .int .u8 63, .int .u8 63, .int .i64 a, .int .i64 b]) ∧ Below w.heap.size w w'
set_option maxRecDepth 10000 in
set_option maxHeartbeats 400000 in
theorem simple_any (s : ByteArray) (A : Option Addr) (n k : Nat) (a b : Int) (w : World) :
    Calls Try.prog 48 #[.string s, .slice A n k, .agg #[.int .i64 a, .int .i64 b]] w (SimpleEnd s A n k a b w) := by
  go_enter Try.func48, Try.ntmps48
  go_wp2
  refine bodyPost_ret (v := .agg #[.string s, .slice A n k, .int .u8 63, .int .u8 63, .int .i64 a, .int .i64 b]) (by simp [results, Try.results48, go_sem]) rfl ⟨rfl, ?_⟩
  exact ((Below.refl _ _).alloc (Nat.le_refl _) _).alloc (by simp) _
def Made (w : World) (lo : Nat) (v : Value) (rs : List Rule) : Prop := ∃ A k vals, v = .slice A rs.length k ∧ w.ownsRow lo 55 6 v rs.length vals ∧ RulesW w lo vals rs
theorem Made.keep {w w' : World} {lo : Nat} {v : Value} {rs : List Rule} (h : Made w lo v rs) (hb : Below w.heap.size w w') : Made w' lo v rs := by
  obtain ⟨A, k, vals, e, ho, hr⟩ := h
  exact ⟨A, k, vals, e, own_keep ho hb, hr.below hb⟩
theorem Made.lit {w : World} {lo : Nat} {vals : List Value} {rs : List Rule} (h : RulesW w lo vals rs) (hlo : lo ≤ w.heap.size) (hm : rs.length ≤ maxLen) :
    Made (w.alloc (.cells vals.toArray 55)) lo (.slice (some ⟨w.heap.size, 0, none⟩) rs.length rs.length) rs :=
  ⟨_, _, vals, rfl, World.ownsRow_lit w vals.toArray rs.length hlo hm (by simpa using h.1.1), h.below (below_box w _ _)⟩
theorem IsCells.less {lo lo' : Nat} {xs : List Int} {v : Value} {w : World} (h : IsCells lo xs v w) (hl : lo' ≤ lo) : IsCells lo' xs v w := by
  obtain ⟨A, k, e, hs⟩ := h
  exact ⟨A, k, e, hs.less hl⟩
theorem simpleR_fits {s : ByteArray} {c : List Int} {a b : Int} (h1 : s.size < 2 ^ 47) (h2 : c.length < 2 ^ 47) (h3 : ∀ z ∈ c, 0 ≤ z ∧ z < 256) (h4 : 0 ≤ a ∧ a < 100) (h5 : 0 ≤ b ∧ b < 100) : (simpleR s c a b).fits :=
  ⟨h1, h2, h3, ⟨by show (0 : Int) ≤ 63; decide, by show (63 : Int) < 256; decide⟩, ⟨by show (0 : Int) ≤ 63; decide, by show (63 : Int) < 256; decide⟩, ⟨by show _ ≤ a; omega, by show a ≤ _; omega⟩, ⟨by show _ ≤ b; omega, by show b ≤ _; omega⟩⟩
def lettersR : List Rule := [simpleR (strOf [97]) [1] 0 0, simpleR (strOf [98]) [3] 0 0, simpleR (strOf [99]) [9] 0 0, simpleR (strOf [32]) [0] 0 0]
def LettersEnd (w : World) (e : Ending) (w' : World) : Prop := ∃ v, e = .returned v ∧ Made w' w.heap.size v lettersR ∧ Below w.heap.size w w'
theorem IsCells.new (w : World) (z : Int) : IsCells w.heap.size [z] (.slice (some ⟨w.heap.size, 0, none⟩) 1 1) (w.alloc (.cells #[.int .u8 z] 64)) :=
  ⟨_, _, rfl, SeqC.mk_ (fun _ => ⟨w.heap.size, 0, rfl, Nat.le_refl _, ⟨_, Blk.new _ _ _⟩, fun j hj => by
    obtain rfl : j = 0 := by simp at hj; omega
    exact (Blk.new w #[.int .u8 z] 64).cell 0⟩) (Nat.le_refl _)⟩
def phiLetters (lo : Nat) (i : Nat) (v : Value) (w' : World) : Prop := match i with
  | 0 => IsCells lo [1] v w'
  | 3 => IsCells lo [3] v w'
  | 6 => IsCells lo [9] v w'
  | 9 => IsCells lo [0] v w'
  | 1 => v = .agg #[.int .i64 0, .int .i64 0]
  | 4 => v = .agg #[.int .i64 0, .int .i64 0]
  | 7 => v = .agg #[.int .i64 0, .int .i64 0]
  | 10 => v = .agg #[.int .i64 0, .int .i64 0]
  | 2 => IsRule lo (simpleR (strOf [97]) [1] 0 0) v w'
  | 5 => IsRule lo (simpleR (strOf [98]) [3] 0 0) v w'
  | 8 => IsRule lo (simpleR (strOf [99]) [9] 0 0) v w'
  | 11 => IsRule lo (simpleR (strOf [32]) [0] 0 0) v w'
  | 12 => Made w' lo v lettersR
  | 13 => Made w' lo v lettersR
  | _ => True
set_option maxRecDepth 10000 in
set_option maxHeartbeats 400000 in
theorem letters_any (w : World) : Calls Try.prog 46 #[] w (LettersEnd w) := by
  go_enter Try.func46, Try.ntmps46
  go_wp2_with fail
  have hV : Hid (Blk (w.alloc (.cells #[.int .i64 0, .int .i64 0] 91)) w.heap.size 91 #[.int .i64 0, .int .i64 0]) := Blk.new _ _ _
  have hBV : Hid (Below w.heap.size w (w.alloc (.cells #[.int .i64 0, .int .i64 0] 91))) := (Below.refl _ _).alloc (Nat.le_refl _) _
  have hsz : (w.alloc (.cells #[.int .i64 0, .int .i64 0] 91)).heap.size = w.heap.size + 1 := by simp
  generalize w.alloc (.cells #[.int .i64 0, .int .i64 0] 91) = V at *
  have cV0 := hV.out.cell 0
  have cV1 := hV.out.cell 1
  simp at cV0 cV1
  refine wp_region_inv (by kernel_rfl) (fun y => [y 13, .pointer (some ⟨w.heap.size, 0, none⟩), .agg #[.int .i64 0, .int .i64 0], y 0, y 1, y 2, y 3, y 4, y 5, y 6, y 7, y 8, y 9, y 10, y 11, y 12])
    (fun w' => Below V.heap.size V w')
    (phiLetters w.heap.size)
    (fun i => if i = 13 then .slice none 0 0 else undef) (by kernel_rfl) ?_ ?_ [0, 1, 2, 3, 4, 5, 6, 7, 8, 9, 10, 11, 12, 13] (by kernel_rfl) ?_ ?_
  · intro i v w1 w2 h hb
    unfold phiLetters at h ⊢
    split at h <;> first | exact IsCells.keep h hb | exact IsRule.keep h hb | exact Made.keep h hb | exact h
  · exact (Below.refl _ _).drew
  · refine allCons ?_ (allCons ?_ (allCons ?_ (allCons ?_ (allCons ?_ (allCons ?_ (allCons ?_ (allCons ?_ (allCons ?_ (allCons ?_ (allCons ?_ (allCons ?_ (allCons ?_ (allCons ?_ allNil)))))))))))))
    all_goals intro y w' K hS hd hK
    · refine wpOp_step rfl (fun K2 hK2 => ?_)
      go_simp
      exact hK2 _ _ (hK _ _ (hS.alloc hS.size _) ((IsCells.new w' 1).less (by have := hS.size; omega)) ((Below.refl _ _).alloc (Nat.le_refl _) _))
    · have c0 : w'.cell? ⟨w.heap.size, 0, none⟩ = some (.int .i64 0) := (hS.cell (p := ⟨w.heap.size, 0, none⟩) (by show w.heap.size < _; omega)).trans cV0
      have c1 : w'.cell? ⟨w.heap.size, 1, none⟩ = some (.int .i64 0) := (hS.cell (p := ⟨w.heap.size, 1, none⟩) (by show w.heap.size < _; omega)).trans cV1
      refine wpOp_step rfl (fun K2 hK2 => ?_)
      go_simp
      exact hK2 _ _ (hK _ _ hS rfl (Below.refl _ _))
    · obtain ⟨A, k, e, hs⟩ := hd 0 rfl
      have e2 : y 1 = _ := hd 1 rfl
      obtain ⟨y, rfl⟩ := upd_at e
      obtain ⟨y, rfl⟩ := upd_at (y := y) (i := 1) e2
      dsimp [upd]
      refine wpOp_step rfl (fun K2 hK2 => ?_)
      go_simp
      refine (simple_any _ _ _ _ _ _ _).mono ?_
      rintro e' w2 ⟨rfl, hb⟩
      exact hK2 _ _ (hK _ _ (below_next hS hb) ⟨A, k, rfl, hs.below hb⟩ hb)
    · refine wpOp_step rfl (fun K2 hK2 => ?_)
      go_simp
      exact hK2 _ _ (hK _ _ (hS.alloc hS.size _) ((IsCells.new w' 3).less (by have := hS.size; omega)) ((Below.refl _ _).alloc (Nat.le_refl _) _))
    · have c0 : w'.cell? ⟨w.heap.size, 0, none⟩ = some (.int .i64 0) := (hS.cell (p := ⟨w.heap.size, 0, none⟩) (by show w.heap.size < _; omega)).trans cV0
      have c1 : w'.cell? ⟨w.heap.size, 1, none⟩ = some (.int .i64 0) := (hS.cell (p := ⟨w.heap.size, 1, none⟩) (by show w.heap.size < _; omega)).trans cV1
      refine wpOp_step rfl (fun K2 hK2 => ?_)
      go_simp
      exact hK2 _ _ (hK _ _ hS rfl (Below.refl _ _))
    · obtain ⟨A, k, e, hs⟩ := hd 3 rfl
      have e2 : y 4 = _ := hd 4 rfl
      obtain ⟨y, rfl⟩ := upd_at e
      obtain ⟨y, rfl⟩ := upd_at (y := y) (i := 4) e2
      dsimp [upd]
      refine wpOp_step rfl (fun K2 hK2 => ?_)
      go_simp
      refine (simple_any _ _ _ _ _ _ _).mono ?_
      rintro e' w2 ⟨rfl, hb⟩
      exact hK2 _ _ (hK _ _ (below_next hS hb) ⟨A, k, rfl, hs.below hb⟩ hb)
    · refine wpOp_step rfl (fun K2 hK2 => ?_)
      go_simp
      exact hK2 _ _ (hK _ _ (hS.alloc hS.size _) ((IsCells.new w' 9).less (by have := hS.size; omega)) ((Below.refl _ _).alloc (Nat.le_refl _) _))
    · have c0 : w'.cell? ⟨w.heap.size, 0, none⟩ = some (.int .i64 0) := (hS.cell (p := ⟨w.heap.size, 0, none⟩) (by show w.heap.size < _; omega)).trans cV0
      have c1 : w'.cell? ⟨w.heap.size, 1, none⟩ = some (.int .i64 0) := (hS.cell (p := ⟨w.heap.size, 1, none⟩) (by show w.heap.size < _; omega)).trans cV1
      refine wpOp_step rfl (fun K2 hK2 => ?_)
      go_simp
      exact hK2 _ _ (hK _ _ hS rfl (Below.refl _ _))
    · obtain ⟨A, k, e, hs⟩ := hd 6 rfl
      have e2 : y 7 = _ := hd 7 rfl
      obtain ⟨y, rfl⟩ := upd_at e
      obtain ⟨y, rfl⟩ := upd_at (y := y) (i := 7) e2
      dsimp [upd]
      refine wpOp_step rfl (fun K2 hK2 => ?_)
      go_simp
      refine (simple_any _ _ _ _ _ _ _).mono ?_
      rintro e' w2 ⟨rfl, hb⟩
      exact hK2 _ _ (hK _ _ (below_next hS hb) ⟨A, k, rfl, hs.below hb⟩ hb)
    · refine wpOp_step rfl (fun K2 hK2 => ?_)
      go_simp
      exact hK2 _ _ (hK _ _ (hS.alloc hS.size _) ((IsCells.new w' 0).less (by have := hS.size; omega)) ((Below.refl _ _).alloc (Nat.le_refl _) _))
    · have c0 : w'.cell? ⟨w.heap.size, 0, none⟩ = some (.int .i64 0) := (hS.cell (p := ⟨w.heap.size, 0, none⟩) (by show w.heap.size < _; omega)).trans cV0
      have c1 : w'.cell? ⟨w.heap.size, 1, none⟩ = some (.int .i64 0) := (hS.cell (p := ⟨w.heap.size, 1, none⟩) (by show w.heap.size < _; omega)).trans cV1
      refine wpOp_step rfl (fun K2 hK2 => ?_)
      go_simp
      exact hK2 _ _ (hK _ _ hS rfl (Below.refl _ _))
    · obtain ⟨A, k, e, hs⟩ := hd 9 rfl
      have e2 : y 10 = _ := hd 10 rfl
      obtain ⟨y, rfl⟩ := upd_at e
      obtain ⟨y, rfl⟩ := upd_at (y := y) (i := 10) e2
      dsimp [upd]
      refine wpOp_step rfl (fun K2 hK2 => ?_)
      go_simp
      refine (simple_any _ _ _ _ _ _ _).mono ?_
      rintro e' w2 ⟨rfl, hb⟩
      exact hK2 _ _ (hK _ _ (below_next hS hb) ⟨A, k, rfl, hs.below hb⟩ hb)
    · obtain ⟨A1, k1, e1, h1⟩ := hd 2 rfl
      obtain ⟨A2, k2, e2, h2⟩ := hd 5 rfl
      obtain ⟨A3, k3, e3, h3⟩ := hd 8 rfl
      obtain ⟨A4, k4, e4, h4⟩ := hd 11 rfl
      have hm := Made.lit ((((RulesW.nil.snoc (k := k1) h1 (simpleR_fits (by decide) (by decide) (by decide) (by decide) (by decide))).snoc (k := k2) h2 (simpleR_fits (by decide) (by decide) (by decide) (by decide) (by decide))).snoc (k := k3) h3 (simpleR_fits (by decide) (by decide) (by decide) (by decide) (by decide))).snoc (k := k4) h4 (simpleR_fits (by decide) (by decide) (by decide) (by decide) (by decide))) (by have := hS.size; omega) (by decide)
      obtain ⟨y, rfl⟩ := upd_at e1
      obtain ⟨y, rfl⟩ := upd_at (y := y) (i := 5) e2
      obtain ⟨y, rfl⟩ := upd_at (y := y) (i := 8) e3
      obtain ⟨y, rfl⟩ := upd_at (y := y) (i := 11) e4
      dsimp [upd]
      refine wpOp_step rfl (fun K2 hK2 => ?_)
      go_simp
      exact hK2 _ _ (hK _ _ (hS.alloc hS.size _) hm ((Below.refl _ _).alloc (Nat.le_refl _) _))
    · have h12 := hd 12 rfl
      refine wpOp_step rfl (fun K2 hK2 => ?_)
      go_simp
      exact hK2 _ _ (hK _ _ hS h12 (Below.refl _ _))
  · intro y w' hS hd
    have h13 := hd 13 (by decide)
    clear hd
    go_wp2
    exact bodyPost_ret (v := y 13) (by simp [results, Try.results46, go_sem]) rfl ⟨y 13, rfl, h13, hBV.out.trans (hS.mono (by omega))⟩
end Go.Proofs.Ytiedaongfjcbhaa
