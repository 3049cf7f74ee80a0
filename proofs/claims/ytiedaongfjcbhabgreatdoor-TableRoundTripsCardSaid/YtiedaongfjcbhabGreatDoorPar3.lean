/- Package table: the reader's cells. -/
import Derived.Test.YtiedaongfjcbhabGreatDoorPar2
import Derived.Deep.LoopGhost
namespace Go.Proofs.YtiedaongfjcbhabGreatDoor
open Go.RowKit

/-- The cells that stand between dashes. -/
def cellsG : Nat → List UInt8 → List Int → Option (List Int)
  | 0, _, _ => none
  | k + 1, l, acc => if paE (bytes (strU (pieceL 45 l))) = 0 then (if usedB 45 l false then some (acc ++ [paC (bytes (strU (pieceL 45 l)))]) else cellsG k (restL 45 l) (acc ++ [paC (bytes (strU (pieceL 45 l)))])) else none
def Fds.cs (s : Fds) : Option (List Int) := cellsG (s.word.length + 1) s.word []
def Fds.csL (s : Fds) : List Int := s.cs.getD []
def Fds.csS (s : Fds) : Fds := s.next.bad s.cs.isNone
theorem used_rest (c : UInt8) (l : List UInt8) (h : usedB c l false = false) : (restL c l).length < l.length := by
  unfold usedB restL at *
  cases hi : decide (Lib.indexByte l c = -1) with
  | true => rw [cutAt_none (of_decide_eq_true hi)] at h; cases h
  | false =>
    have hi := of_decide_eq_false hi
    obtain ⟨i, hi2⟩ : ∃ i : Nat, Lib.indexByte l c = i := ⟨(Lib.indexByte l c).toNat, by have := Lib.indexByte_ge l c; omega⟩
    rw [(cutAt_some hi2).2]; simp; have := (cutAt_some hi2).1; omega
theorem used_nil (c : UInt8) (l : List UInt8) (h : usedB c l false = true) : restL c l = [] := by
  unfold usedB restL at *
  cases hk : cutAt c l with
  | none => rfl
  | some pq => rw [hk] at h; cases h
theorem cellsG_fuel : ∀ (k k' : Nat) (l : List UInt8) (acc : List Int), l.length < k → l.length < k' → cellsG k l acc = cellsG k' l acc := by
  intro k
  induction k with
  | zero => intro k' l acc h; omega
  | succ k ih =>
    intro k' l acc h h'
    cases k' with
    | zero => omega
    | succ k' =>
      unfold cellsG
      split
      · split
        · rfl
        · rename_i hu
          have := used_rest 45 l (by simpa using hu)
          exact ih k' _ _ (by omega) (by omega)
      · rfl
/-- The length of what the reader has still to read, by block q. -/
def leftOf (u : Bool) (l : List UInt8) : Nat := if u then 0 else l.length + 1
theorem parseGo_lt : ∀ (l : List Nat) (last c r : Nat), 48 ≤ last → c < 64 → parseGo l last c = some r → r < 64 := by
  intro l
  induction l with
  | nil => intro last c r _ hc h; unfold parseGo at h; injection h with h; omega
  | cons b t ih =>
    intro last c r hl hc h
    unfold parseGo at h
    by_cases hb : b ≤ last ∨ 54 < b
    · rw [if_pos hb] at h; cases h
    · rw [if_neg hb] at h
      exact ih b _ r (by omega) (or_step c b hc (by omega) (by omega)).2 h
theorem parse_lt {l : List Nat} {r : Nat} (h : parse l = some r) : r < 64 := by
  unfold parse at h
  split at h
  · injection h with h; omega
  · split at h
    · cases h
    · exact parseGo_lt l 48 0 r (by omega) (by omega) h
theorem parse_bd (l : List Nat) (h : paE l = 0) : 0 ≤ paC l ∧ paC l < 64 := by
  unfold paE at h
  unfold paC
  cases hp : parse l with
  | none => rw [hp] at h; simp at h
  | some r => have := parse_lt hp; simp; omega
theorem cellsG_bd : ∀ (k : Nat) (l : List UInt8) (acc xs : List Int), cellsG k l acc = some xs → (∀ z ∈ acc, 0 ≤ z ∧ z < 64) → (∀ z ∈ xs, 0 ≤ z ∧ z < 64) := by
  intro k
  induction k with
  | zero => intro l acc xs h; unfold cellsG at h; cases h
  | succ k ih =>
    intro l acc xs h ha
    unfold cellsG at h
    split at h
    · rename_i he
      have hb := parse_bd _ he
      have ha' : ∀ z ∈ acc ++ [paC (bytes (strU (pieceL 45 l)))], 0 ≤ z ∧ z < 64 := by
        intro z hz
        rw [List.mem_append, List.mem_singleton] at hz
        rcases hz with hz | rfl
        · exact ha z hz
        · exact hb
      split at h
      · injection h with h; rw [← h]; exact ha'
      · exact ih _ _ _ h ha'
    · cases h
theorem cellsG_len : ∀ (k : Nat) (l : List UInt8) (acc xs : List Int), cellsG k l acc = some xs → xs.length ≤ acc.length + l.length + 1 := by
  intro k
  induction k with
  | zero => intro l acc xs h; unfold cellsG at h; cases h
  | succ k ih =>
    intro l acc xs h
    unfold cellsG at h
    split at h
    · split at h
      · injection h with h; rw [← h, List.length_append, List.length_singleton]; omega
      · rename_i hu
        have h1 := ih _ _ _ h
        have h2 := used_rest 45 l (by simpa using hu)
        rw [List.length_append, List.length_singleton] at h1; omega
    · cases h
theorem own_ne {w : World} {q size n : Nat} {e : TypeId} {v : Value} {xs : List Value} (h : w.ownsRow (q + 1) e size v n xs) : v.ownBlock = none ∨ v.ownBlock ≠ some q := by
  refine .inr (fun e => ?_)
  have := (h.lt q e).1; omega
/-- A list of cells that the call itself has made, from block lo on. -/
def SeqT (w : World) (lo : Nat) (A : Option Addr) (xs : List Int) : Prop :=
  0 < xs.length → ∃ b o : Nat, A = some ⟨b, o, none⟩ ∧ lo ≤ b ∧ (∃ cur, Blk w b 45 cur) ∧ ∀ j (h : j < xs.length), w.cell? ⟨b, o + j, none⟩ = some (.int .u8 xs[j])
theorem SeqT.nil {w : World} {lo : Nat} {A : Option Addr} : SeqT w lo A [] := fun h => absurd h (by simp)
theorem SeqT.seq {w : World} {lo : Nat} {A : Option Addr} {xs : List Int} (h : SeqT w lo A xs) : Seq w w.heap.size A xs := fun hl => by
  obtain ⟨b, o, e, _, ⟨cur, hb⟩, hc⟩ := h hl
  exact ⟨b, o, e, Blk.lt hb, hc⟩
theorem SeqT.less {w : World} {lo lo' : Nat} {A : Option Addr} {xs : List Int} (h : SeqT w lo A xs) (hl : lo' ≤ lo) : SeqT w lo' A xs := fun hn => by
  obtain ⟨b, o, e, h1, h2⟩ := h hn
  exact ⟨b, o, e, Nat.le_trans hl h1, h2⟩
theorem SeqT.move {w w' : World} {lo : Nat} {A : Option Addr} {xs : List Int} (h : SeqT w lo A xs) (hk : ∀ b cur, Blk w b 45 cur → w'.heap[b]? = w.heap[b]?) : SeqT w' lo A xs := fun hn => by
  obtain ⟨b, o, e, h1, ⟨cur, hb⟩, hc⟩ := h hn
  have hk2 := hk b cur hb
  exact ⟨b, o, e, h1, ⟨cur, hk2.trans hb⟩, fun j hj => (World.cell?_of_block (a := ⟨b, o + j, none⟩) hk2).trans (hc j hj)⟩
theorem Blk.type_ne {w : World} {b q : Nat} {t t' : TypeId} {r r' : Array Value} (h : Blk w b t r) (h' : Blk w q t' r') (hne : t ≠ t') : b ≠ q := by
  rintro rfl
  unfold Blk at h h'
  rw [h] at h'
  injection h' with h'
  injection h' with _ ht
  exact hne ht
theorem SeqT.below {w w' : World} {lo : Nat} {A : Option Addr} {xs : List Int} (h : SeqT w lo A xs) (hb : Below w.heap.size w w') : SeqT w' lo A xs := h.move fun b _ hB => hb.block b (Blk.lt hB)
theorem SeqT.gb {w w' : World} {lo g : Nat} {A : Option Addr} {xs : List Int} (h : SeqT w lo A xs) (hg : w.grownBy w' (some g)) {t : TypeId} {row : Array Value} (hG : Blk w g t row) (hne : 45 ≠ t) : SeqT w' lo A xs :=
  h.move fun b _ hB => hg.block b (Blk.lt hB) (fun e => by injection e with e; exact Blk.type_ne hB hG hne e)
theorem SeqT.set {w : World} {lo q i : Nat} {A : Option Addr} {xs : List Int} (h : SeqT w lo A xs) {t : TypeId} {row : Array Value} (hQ : Blk w q t row) (hne : 45 ≠ t) (v : Value) : SeqT (w.setCell ⟨q, i, none⟩ v) lo A xs :=
  h.move fun b _ hB => Below.heap_setCell w ⟨q, i, none⟩ v b (fun e => Blk.type_ne hB hQ hne e)
theorem own_seqT {w : World} {lo n k : Nat} {A : Option Addr} {xs : List Int} (h : w.ownsRow lo 45 1 (.slice A n k) n (xs.map (Value.int .u8))) : SeqT w lo A xs := fun hl => by
  obtain ⟨hlen, hform⟩ := id h
  have hln : xs.length = n := by simpa using hlen
  rcases hform with ⟨e, hn0⟩ | ⟨g, cap, cur, e, hg, hblk, _⟩
  · omega
  · injection e with e1 e2 e3
    subst e1
    refine ⟨g, 0, rfl, hg, ⟨cur, hblk⟩, fun j hj => ?_⟩
    rw [Nat.zero_add, h.cellAt j (by omega)]
    simp [hj]
def CellsEnd (s : Fds) (g : Nat) (w : World) (e : Ending) (w' : World) : Prop :=
  ∃ A k, e = .returned (.slice A s.csL.length k) ∧ SeqT w' w.heap.size A s.csL ∧ s.csS.at_ w' g ∧ w.grownBy w' (some g)
set_option maxRecDepth 10000 in
set_option maxHeartbeats 1000000 in
theorem cellsF_any (g : Nat) (s : Fds) (w : World) (h : s.at_ w g) (hmax : s.rest.length < 2 ^ 40) :
    Calls Tryz.prog 47 #[.pointer (some ⟨g, 0, none⟩)] w (CellsEnd s g w) := by
  obtain ⟨i0, hi, hz0, hz1, hz2⟩ := info_parts info_cell
  have hwl : s.word.length < 2 ^ 40 := by have := (restL_len 32 s.rest).2; unfold Fds.word; omega
  go_enter Tryz.func47, Tryz.ntmps47
  go_wp2_with fail
  refine (next_any g s _ h hmax).mono ?_
  rintro e w1 ⟨rfl, hb, hg⟩
  have HB := Lib.hid hb
  have HG := Lib.hid hg
  have hgw1 : g < w1.heap.size := Blk.lt hb
  clear hb hg h
  have hq0 := Lib.hid (Blk.new w1 #[.string (strU s.word), .bool false] 57)
  have hb0 := Lib.hid (below_box w1 #[.string (strU s.word), .bool false] 57)
  go_wp2_with fail
  generalize hV : w1.alloc (.cells #[.string (strU s.word), .bool false] 57) = V at *
  clear hV
  obtain ⟨q, hq⟩ : ∃ q, w1.heap.size = q := ⟨_, rfl⟩
  rw [hq] at hq0 hb0 hgw1
  rw [hq]
  have HQ := Lib.hid hq
  clear hq
  go_loopg [4] (s.word.length + 1) (fun k v wr => ∃ (l : List UInt8) (u : Bool) (acc : List Int), Blk wr q 57 #[.string (strU l), .bool u] ∧ wr.ownsRow (q + 1) 45 1 v acc.length (acc.map (Value.int .u8)) ∧ Below q w1 wr ∧ leftOf u l ≤ k ∧ acc.length + l.length ≤ s.word.length + (if u then 1 else 0) ∧ s.cs = (if u then some acc else cellsG (l.length + 1) l acc))
  case atStart => exact ⟨s.word, false, [], hq0.out, World.ownsRow_nil _ _ _ _, hb0.out, by simp [leftOf], by simp, rfl⟩
  case round =>
    obtain ⟨l, u, acc, hblk, hown, hb, hlk, hal, hcs⟩ := hrel
    clear hq0 hb0
    have HOWN := Lib.hid hown
    have HCS := Lib.hid hcs
    have HBLK := Lib.hid hblk
    have HBB := Lib.hid hb
    have HAL := Lib.hid hal
    have f0 := hblk.cell 0
    have f1 := hblk.cell 1
    simp at f0 f1
    have hql := hblk.lt
    have hqs := hb.size
    clear hown hcs hblk hb hal
    cases u with
    | false =>
      go_wp2_with fail
      refine (piece_any q 57 (strU l) false [] 45 _ HBLK.out (by rw [strU_size]; have := HAL.out; simp at this; omega)).mono ?_
      rintro e w2 ⟨rfl, hb2, hg2⟩
      rw [strU_data] at hb2 ⊢
      have hqs2 := hg2.size
      have hqs2' : q ≤ w2.heap.size := by omega
      have HB2 := Lib.hid hb2
      have HBB2 := Lib.hid (HBB.out.trans (below_gb hg2 (Nat.le_of_lt hql) (Nat.le_refl _)))
      have HOWN2 := Lib.hid (HOWN.out.kept hg2 (own_ne HOWN.out))
      have hq2 := Blk.lt hb2
      have hgw2 : g < w2.heap.size := by omega
      clear hb2 hg2 f0 f1
      go_wp2_with fail
      refine (parse_any (strU (pieceL 45 l)) _ (by rw [strU_size]; have h1 := (restL_len 45 l).2; have := HAL.out; simp at this; omega)).mono ?_
      rintro e w3 ⟨rfl, hb3⟩
      have hqs3 := hb3.size
      have HB3 := Lib.hid (HB2.out.keep hb3 hq2)
      have HBB3 := Lib.hid (HBB2.out.trans (hb3.mono hqs2'))
      have HOWN3 := Lib.hid (own_keep HOWN2.out hb3)
      have HBD := Lib.hid (parse_bd (bytes (strU (pieceL 45 l))))
      have f1 := HB3.out.cell 1
      simp at f1
      clear hb3
      by_cases he : paE (bytes (strU (pieceL 45 l))) = 0
      · have hc := HBD.out he
        have HST : Hid (s.cs = (if usedB 45 l false then some (acc ++ [paC (bytes (strU (pieceL 45 l)))]) else cellsG l.length (restL 45 l) (acc ++ [paC (bytes (strU (pieceL 45 l)))]))) := by
          unfold Hid; rw [HCS.out, if_neg (by simp), cellsG, if_pos he]
        rw [he]
        clear he
        generalize paC (bytes (strU (pieceL 45 l))) = z at *
        have hl1 := HAL.out
        simp at hl1
        go_wp2_with (at_builtin; refine wpList_append_own _ rfl _ _ 41 rfl (q + 1) 45 i0 (.int .u8 0) 1 1 Tryz.underlying41 hi hz0 hz1 hz2 rfl (by decide) _ _ _ rfl (HOWN3.out.alloc _) ⟨w3.heap.size, 0, none⟩ 1 1 [.int .u8 z] rfl rfl ?c1 ?c2 ?c3 ?c4 ?c5 ?_)
        case c1 => exact cell_one_new _ _ _
        case c2 => exact ints_oneCell .u8 [z]
        case c3 => unfold maxLen; omega
        case c4 => omega
        case c5 => simp; omega
        intro v' w4 hown' hgrow _
        have hb4 : Below q w1 w4 := (HBB3.out.alloc (by omega) _).grown hgrow (by simp; omega) (fun r hr => by have := (HOWN3.out.lt r hr).1; omega)
        have hblk4 : Blk w4 q 57 #[.string (strU (restL 45 l)), .bool (usedB 45 l false)] := by
          refine (hgrow.block q (by simp; omega) (fun e => ?_)).trans ((Below.heap_alloc w3 _ q (by omega)).trans HB3.out)
          have := (HOWN3.out.lt q e.symm).1; omega
        have HO := Lib.hid hown'
        have HB4 := Lib.hid hb4
        have HK4 := Lib.hid hblk4
        clear hown' hgrow hb4 hblk4
        go_wp2
        go_roundg (leftOf (usedB 45 l false) (restL 45 l))
        case measure =>
          have h1 := hlk
          simp only [leftOf, Bool.false_eq_true, if_false] at h1
          unfold leftOf
          split
          · omega
          · rename_i hu
            have := used_rest 45 l (by simpa using hu)
            omega
        case rel =>
          refine ⟨restL 45 l, usedB 45 l false, acc ++ [z], HK4.out, by have := HO.out; simpa using this, HB4.out, Nat.le_refl _, ?_, ?_⟩
          · rw [List.length_append, List.length_singleton]
            cases hu : usedB 45 l false
            · have := used_rest 45 l hu
              simp; omega
            · rw [used_nil 45 l hu]; simp; omega
          · rw [HST.out]
            cases hu : usedB 45 l false
            · have := used_rest 45 l hu
              simp only [Bool.false_eq_true, if_false]
              exact cellsG_fuel _ _ _ _ this (by omega)
            · rfl
      · have h10 : paE (bytes (strU (pieceL 45 l))) = 10 := by unfold paE at he ⊢; split at he <;> simp_all
        rw [h10]
        have hn : s.cs = none := by rw [HCS.out, if_neg (by simp), cellsG, if_neg he]
        have HNN := Lib.hid hn
        clear he h10 hn
        have hF3 : s.next.at_ w3 g := HB.out.keep HBB3.out hgw1
        have z2 := Blk.free hF3 2
        have f2 := Blk.cell hF3 2
        simp at f2
        have HF3 := Lib.hid hF3
        clear hF3
        go_wp2
        go_ret
        have e1 : s.csL = [] := by unfold Fds.csL; rw [HNN.out]; rfl
        refine ⟨none, 0, by rw [e1]; rfl, by rw [e1]; exact SeqT.nil, ?_, gb_trans (gb_trans HG.out (gb_below (some g) (by rw [HQ.out]; exact HBB3.out))) (gb_setCell _ _ _ _)⟩
        unfold Fds.csS
        rw [HNN.out]
        exact Fds.bad_set HF3.out
    | true =>
      obtain ⟨A, kk, rfl, _, _⟩ := own_slice HOWN.out
      have HSEQ := Lib.hid ((own_seqT HOWN.out).less (lo' := w.heap.size) (by have := HG.out.size; have := HQ.out; omega))
      go_wp2
      go_ret
      have e0 : s.cs = some acc := by rw [HCS.out]; rfl
      have e1 : s.csL = acc := by unfold Fds.csL; rw [e0]; rfl
      refine ⟨A, kk, by rw [e1]; rfl, by rw [e1]; exact HSEQ.out, ?_, gb_trans HG.out (gb_below (some g) (by rw [HQ.out]; exact HBB.out))⟩
      unfold Fds.csS
      rw [e0]
      exact (Fds.bad_no s.next).symm ▸ HB.out.keep HBB.out hgw1
end Go.Proofs.YtiedaongfjcbhabGreatDoor
