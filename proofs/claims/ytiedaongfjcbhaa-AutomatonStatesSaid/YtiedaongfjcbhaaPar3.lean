/- Package table: the reader's cells. -/
import Derived.Test.YtiedaongfjcbhaaPar2
import Derived.Deep.LoopGhost
namespace Go.Proofs.Ytiedaongfjcbhaa
open Go.RowKit

/-- The cells that stand between dashes. -/
def cellsG : Nat → List UInt8 → List Int → Option (List Int)
  | 0, _, _ => none
  | k + 1, l, acc => if paE (bytes (strU (pieceL 45 l))) = 0 then (if usedB 45 l false then some (acc ++ [paC (bytes (strU (pieceL 45 l)))]) else cellsG k (restL 45 l) (acc ++ [paC (bytes (strU (pieceL 45 l)))])) else none
def Fds.cs (s : Fds) : Option (List Int) := cellsG (s.word.length + 1) s.word []
def Fds.csL (s : Fds) : List Int := s.cs.getD []
def Fds.csS (s : Fds) : Fds := s.next.bad s.cs.isNone
theorem used_rest (c : UInt8) (l : List UInt8) (h : usedB c l false = false) : (restL c l).length < l.length := by
  unfold usedB restL at *
  cases hi : decide (Lib.indexByte l c = -1) with
  | true => rw [cutAt_none (of_decide_eq_true hi)] at h; cases h
  | false =>
    have hi := of_decide_eq_false hi
    obtain ⟨i, hi2⟩ : ∃ i : Nat, Lib.indexByte l c = i := ⟨(Lib.indexByte l c).toNat, by have := Lib.indexByte_ge l c; omega⟩
    rw [(cutAt_some hi2).2]; simp; have := (cutAt_some hi2).1; omega
theorem used_nil (c : UInt8) (l : List UInt8) (h : usedB c l false = true) : restL c l = [] := by
  unfold usedB restL at *
  cases hk : cutAt c l with
  | none => rfl
  | some pq => rw [hk] at h; cases h
theorem cellsG_fuel : ∀ (k k' : Nat) (l : List UInt8) (acc : List Int), l.length < k → l.length < k' → cellsG k l acc = cellsG k' l acc := by
  intro k
  induction k with
  | zero => intro k' l acc h; omega
  | succ k ih =>
    intro k' l acc h h'
    cases k' with
    | zero => omega
    | succ k' =>
      unfold cellsG
      split
      · split
        · rfl
        · rename_i hu
          have := used_rest 45 l (by simpa using hu)
          exact ih k' _ _ (by omega) (by omega)
      · rfl
/-- The length of what the reader has still to read, by block q. -/
def leftOf (u : Bool) (l : List UInt8) : Nat := if u then 0 else l.length + 1
theorem parseGo_lt : ∀ (l : List Nat) (last c r : Nat), 48 ≤ last → c < 64 → parseGo l last c = some r → r < 64 := by
  intro l
  induction l with
  | nil => intro last c r _ hc h; unfold parseGo at h; injection h with h; omega
  | cons b t ih =>
    intro last c r hl hc h
    unfold parseGo at h
    by_cases hb : b ≤ last ∨ 54 < b
    · rw [if_pos hb] at h; cases h
    · rw [if_neg hb] at h
      exact ih b _ r (by omega) (or_step c b hc (by omega) (by omega)).2 h
theorem parse_lt {l : List Nat} {r : Nat} (h : parse l = some r) : r < 64 := by
  unfold parse at h
  split at h
  · injection h with h; omega
  · split at h
    · cases h
    · exact parseGo_lt l 48 0 r (by omega) (by omega) h
theorem parse_bd (l : List Nat) (h : paE l = 0) : 0 ≤ paC l ∧ paC l < 64 := by
  unfold paE at h
  unfold paC
  cases hp : parse l with
  | none => rw [hp] at h; simp at h
  | some r => have := parse_lt hp; simp; omega
theorem cellsG_bd : ∀ (k : Nat) (l : List UInt8) (acc xs : List Int), cellsG k l acc = some xs → (∀ z ∈ acc, 0 ≤ z ∧ z < 64) → (∀ z ∈ xs, 0 ≤ z ∧ z < 64) := by
  intro k
  induction k with
  | zero => intro l acc xs h; unfold cellsG at h; cases h
  | succ k ih =>
    intro l acc xs h ha
    unfold cellsG at h
    split at h
    · rename_i he
      have hb := parse_bd _ he
      have ha' : ∀ z ∈ acc ++ [paC (bytes (strU (pieceL 45 l)))], 0 ≤ z ∧ z < 64 := by
        intro z hz
        rw [List.mem_append, List.mem_singleton] at hz
        rcases hz with hz | rfl
        · exact ha z hz
        · exact hb
      split at h
      · injection h with h; rw [← h]; exact ha'
      · exact ih _ _ _ h ha'
    · cases h
theorem cellsG_len : ∀ (k : Nat) (l : List UInt8) (acc xs : List Int), cellsG k l acc = some xs → xs.length ≤ acc.length + l.length + 1 := by
  intro k
  induction k with
  | zero => intro l acc xs h; unfold cellsG at h; cases h
  | succ k ih =>
    intro l acc xs h
    unfold cellsG at h
    split at h
    · split at h
      · injection h with h; rw [← h, List.length_append, List.length_singleton]; omega
      · rename_i hu
        have h1 := ih _ _ _ h
        have h2 := used_rest 45 l (by simpa using hu)
        rw [List.length_append, List.length_singleton] at h1; omega
    · cases h
theorem own_ne {w : World} {q size n : Nat} {e : TypeId} {v : Value} {xs : List Value} (h : w.ownsRow (q + 1) e size v n xs) : v.ownBlock = none ∨ v.ownBlock ≠ some q := by
  refine .inr (fun e => ?_)
  have := (h.lt q e).1; omega
/-- A list of cells that the call itself has made, from block lo on. -/
def SeqT (w : World) (lo : Nat) (A : Option Addr) (xs : List Int) : Prop :=
  0 < xs.length → ∃ b o : Nat, A = some ⟨b, o, none⟩ ∧ lo ≤ b ∧ (∃ cur, Blk w b 64 cur) ∧ ∀ j (h : j < xs.length), w.cell? ⟨b, o + j, none⟩ = some (.int .u8 xs[j])
theorem SeqT.nil {w : World} {lo : Nat} {A : Option Addr} : SeqT w lo A [] := fun h => absurd h (by simp)
theorem SeqT.seq {w : World} {lo : Nat} {A : Option Addr} {xs : List Int} (h : SeqT w lo A xs) : Seq w w.heap.size A xs := fun hl => by
  obtain ⟨b, o, e, _, ⟨cur, hb⟩, hc⟩ := h hl
  exact ⟨b, o, e, Blk.lt hb, hc⟩
theorem SeqT.less {w : World} {lo lo' : Nat} {A : Option Addr} {xs : List Int} (h : SeqT w lo A xs) (hl : lo' ≤ lo) : SeqT w lo' A xs := fun hn => by
  obtain ⟨b, o, e, h1, h2⟩ := h hn
  exact ⟨b, o, e, Nat.le_trans hl h1, h2⟩
theorem SeqT.move {w w' : World} {lo : Nat} {A : Option Addr} {xs : List Int} (h : SeqT w lo A xs) (hk : ∀ b cur, Blk w b 64 cur → w'.heap[b]? = w.heap[b]?) : SeqT w' lo A xs := fun hn => by
  obtain ⟨b, o, e, h1, ⟨cur, hb⟩, hc⟩ := h hn
  have hk2 := hk b cur hb
  exact ⟨b, o, e, h1, ⟨cur, hk2.trans hb⟩, fun j hj => (World.cell?_of_block (a := ⟨b, o + j, none⟩) hk2).trans (hc j hj)⟩
theorem Blk.type_ne {w : World} {b q : Nat} {t t' : TypeId} {r r' : Array Value} (h : Blk w b t r) (h' : Blk w q t' r') (hne : t ≠ t') : b ≠ q := by
  rintro rfl
  unfold Blk at h h'
  rw [h] at h'
  injection h' with h'
  injection h' with _ ht
  exact hne ht
theorem SeqT.below {w w' : World} {lo : Nat} {A : Option Addr} {xs : List Int} (h : SeqT w lo A xs) (hb : Below w.heap.size w w') : SeqT w' lo A xs := h.move fun b _ hB => hb.block b (Blk.lt hB)
theorem SeqT.gb {w w' : World} {lo g : Nat} {A : Option Addr} {xs : List Int} (h : SeqT w lo A xs) (hg : w.grownBy w' (some g)) {t : TypeId} {row : Array Value} (hG : Blk w g t row) (hne : 64 ≠ t) : SeqT w' lo A xs :=
  h.move fun b _ hB => hg.block b (Blk.lt hB) (fun e => by injection e with e; exact Blk.type_ne hB hG hne e)
theorem SeqT.set {w : World} {lo q i : Nat} {A : Option Addr} {xs : List Int} (h : SeqT w lo A xs) {t : TypeId} {row : Array Value} (hQ : Blk w q t row) (hne : 64 ≠ t) (v : Value) : SeqT (w.setCell ⟨q, i, none⟩ v) lo A xs :=
  h.move fun b _ hB => Below.heap_setCell w ⟨q, i, none⟩ v b (fun e => Blk.type_ne hB hQ hne e)
theorem own_seqT {w : World} {lo n k : Nat} {A : Option Addr} {xs : List Int} (h : w.ownsRow lo 64 1 (.slice A n k) n (xs.map (Value.int .u8))) : SeqT w lo A xs := fun hl => by
  obtain ⟨hlen, hform⟩ := id h
  have hln : xs.length = n := by simpa using hlen
  rcases hform with ⟨e, hn0⟩ | ⟨g, cap, cur, e, hg, hblk, _⟩
  · omega
  · injection e with e1 e2 e3
    subst e1
    refine ⟨g, 0, rfl, hg, ⟨cur, hblk⟩, fun j hj => ?_⟩
    rw [Nat.zero_add, h.cellAt j (by omega)]
    simp [hj]
end Go.Proofs.Ytiedaongfjcbhaa
