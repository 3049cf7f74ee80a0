/- Package table: Parse as a plain function; lists of rules of the call's own. -/
import Derived.Test.YtiedaongfjcbhaaPar5
namespace Go.Proofs.Ytiedaongfjcbhaa
open Go.RowKit

def lineF (l : List UInt8) : Fds := ⟨l, false, false⟩
def Fds.ok (s : Fds) : Bool := s.used && !s.wrong
inductive ParseR where
  | form (n : Nat)
  | done (m a : Int) (rs : List Rule)
/-- Reading line by line: how many lines are read, what is left, what was read. -/
def parseG : Nat → Nat → List UInt8 → Int → Int → List Rule → ParseR
  | 0, n, _, _, _, _ => .form n
  | k + 1, n, R, m, a, rs =>
    if n = 0 then
      if usedB 10 R false || !(lineF (pieceL 10 R)).m4.ok then .form 0
      else parseG k 1 (restL 10 R) ((lineF (pieceL 10 R)).m1.num 999) ((lineF (pieceL 10 R)).m3.num 255) rs
    else if R = [] then .done m a rs
    else if usedB 10 R false || !(lineF (pieceL 10 R)).r6.ok then .form n
    else parseG k (n + 1) (restL 10 R) m a (rs ++ [(lineF (pieceL 10 R)).ru])
def parseT (l : List UInt8) : ParseR := parseG (l.length + 2) 0 l 0 0 []
theorem parseG_fuel : ∀ (k k' n : Nat) (R : List UInt8) (m a : Int) (rs : List Rule), R.length + 1 < k → R.length + 1 < k' → parseG k n R m a rs = parseG k' n R m a rs := by
  intro k
  induction k with
  | zero => intro k' n R m a rs h; omega
  | succ k ih =>
    intro k' n R m a rs h h'
    cases k' with
    | zero => omega
    | succ k' =>
      unfold parseG
      by_cases hn : n = 0
      · rw [if_pos hn, if_pos hn]
        split
        · rfl
        · rename_i hu
          have := used_rest 10 R (by simp at hu; simpa using hu.1)
          exact ih k' _ _ _ _ _ (by omega) (by omega)
      · rw [if_neg hn, if_neg hn]
        split
        · rfl
        · split
          · rfl
          · rename_i hu
            have := used_rest 10 R (by simp at hu; simpa using hu.1)
            exact ih k' _ _ _ _ _ (by omega) (by omega)

/-- The cells of rules, one behind the other. -/
def RulesV (w : World) (lo : Nat) (vals : List Value) (rs : List Rule) : Prop :=
  vals.length = rs.length * 6 ∧ ∀ j (h : j < rs.length), ∃ A k, vals[j * 6]? = some (.string rs[j].p) ∧ vals[j * 6 + 1]? = some (.slice A rs[j].c.length k) ∧ vals[j * 6 + 2]? = some (.int .u8 rs[j].l) ∧ vals[j * 6 + 3]? = some (.int .u8 rs[j].r) ∧ vals[j * 6 + 4]? = some (.int .i64 rs[j].f) ∧ vals[j * 6 + 5]? = some (.int .i64 rs[j].t) ∧ SeqT w lo A rs[j].c ∧ rs[j].fits
theorem RulesV.nil {w : World} {lo : Nat} : RulesV w lo [] [] := ⟨rfl, fun j h => absurd h (by simp)⟩
theorem RulesV.move {w w' : World} {lo : Nat} {vals : List Value} {rs : List Rule} (h : RulesV w lo vals rs) (hk : ∀ b cur, Blk w b 64 cur → w'.heap[b]? = w.heap[b]?) : RulesV w' lo vals rs :=
  ⟨h.1, fun j hj => by
    obtain ⟨A, k, a0, a1, a2, a3, a4, a5, hs, hf⟩ := h.2 j hj
    exact ⟨A, k, a0, a1, a2, a3, a4, a5, hs.move hk, hf⟩⟩
theorem RulesV.below {w w' : World} {lo : Nat} {vals : List Value} {rs : List Rule} (h : RulesV w lo vals rs) (hb : Below w.heap.size w w') : RulesV w' lo vals rs := h.move fun b _ hB => hb.block b (Blk.lt hB)
theorem RulesV.gb {w w' : World} {lo g : Nat} {vals : List Value} {rs : List Rule} (h : RulesV w lo vals rs) (hg : w.grownBy w' (some g)) {t : TypeId} {row : Array Value} (hG : Blk w g t row) (hne : 64 ≠ t) : RulesV w' lo vals rs :=
  h.move fun b _ hB => hg.block b (Blk.lt hB) (fun e => by injection e with e; exact Blk.type_ne hB hG hne e)
theorem RulesV.set {w : World} {lo q i : Nat} {vals : List Value} {rs : List Rule} (h : RulesV w lo vals rs) {t : TypeId} {row : Array Value} (hQ : Blk w q t row) (hne : 64 ≠ t) (v : Value) : RulesV (w.setCell ⟨q, i, none⟩ v) lo vals rs :=
  h.move fun b _ hB => Below.heap_setCell w ⟨q, i, none⟩ v b (fun e => Blk.type_ne hB hQ hne e)
theorem RulesV.grown {w w' : World} {lo base n : Nat} {v : Value} {xs vals : List Value} {rs : List Rule} (h : RulesV w lo vals rs) (hown : w.ownsRow base 55 6 v n xs) (hg : w.grownBy w' v.ownBlock) : RulesV w' lo vals rs :=
  h.move fun b _ hB => hg.block b (Blk.lt hB) (fun e => by
    rcases hown.2 with ⟨rfl, _⟩ | ⟨g, cap, cur', rfl, _, hblk, _⟩
    · cases e
    · have e2 : b = g := by simpa [Value.ownBlock] using e
      exact Blk.type_ne hB (t' := 55) hblk (by decide) e2)
def ruleVals (A : Option Addr) (k : Nat) (x : Rule) : List Value := [.string x.p, .slice A x.c.length k, .int .u8 x.l, .int .u8 x.r, .int .i64 x.f, .int .i64 x.t]
theorem RulesV.snoc {w : World} {lo k : Nat} {A : Option Addr} {vals : List Value} {rs : List Rule} {x : Rule} (h : RulesV w lo vals rs) (hs : SeqT w lo A x.c) (hf : x.fits) : RulesV w lo (vals ++ ruleVals A k x) (rs ++ [x]) := by
  obtain ⟨hl, hr⟩ := h
  refine ⟨by simp [ruleVals, hl]; omega, fun j hj => ?_⟩
  rcases Nat.lt_or_ge j rs.length with g | g
  · obtain ⟨A', k', a0, a1, a2, a3, a4, a5, hs', hf'⟩ := hr j g
    have e : (rs ++ [x])[j] = rs[j] := List.getElem_append_left g
    have key : ∀ i u, i < vals.length → vals[i]? = some u → (vals ++ ruleVals A k x)[i]? = some u := fun i u hi hu => by rw [List.getElem?_append_left hi]; exact hu
    rw [e]
    exact ⟨A', k', key _ _ (by omega) a0, key _ _ (by omega) a1, key _ _ (by omega) a2, key _ _ (by omega) a3, key _ _ (by omega) a4, key _ _ (by omega) a5, hs', hf'⟩
  · obtain rfl : j = rs.length := by simp at hj; omega
    have e : (rs ++ [x])[rs.length] = x := by simp
    have key : ∀ i, (vals ++ ruleVals A k x)[rs.length * 6 + i]? = (ruleVals A k x)[i]? := fun i => by
      rw [List.getElem?_append_right (by omega)]
      congr 1; omega
    rw [e]
    exact ⟨A, k, (key 0).trans rfl, (key 1).trans rfl, (key 2).trans rfl, (key 3).trans rfl, (key 4).trans rfl, (key 5).trans rfl, hs, hf⟩
theorem RulesV.rules {w : World} {lo base n k : Nat} {A : Option Addr} {vals : List Value} {rs : List Rule} (h : RulesV w lo vals rs) (hown : w.ownsRow base 55 6 (.slice A n k) n vals) : Rules w w.heap.size A rs ∧ n = rs.length ∧ n ≤ k := by
  obtain ⟨hl, hr⟩ := h
  have hn : n = rs.length := by have := hown.1; omega
  subst hn
  rcases hown.2 with ⟨e, hn0⟩ | ⟨g, cap, cur, e, hg, hblk, hcap, _⟩
  · injection e with e1 e2 e3
    exact ⟨fun h => by omega, rfl, by omega⟩
  · injection e with e1 e2 e3
    subst e1 e3
    refine ⟨fun _ => ⟨g, 0, rfl, Blk.lt hblk, fun j hj => ?_⟩, rfl, hcap⟩
    obtain ⟨A', k', a0, a1, a2, a3, a4, a5, hs', hf'⟩ := hr j hj
    have key : ∀ i u, i < 6 → vals[j * 6 + i]? = some u → w.cell? ⟨g, 0 + j * 6 + i, none⟩ = some u := fun i u hi hu => by
      rw [Nat.zero_add, hown.cellAt _ (by omega)]; exact hu
    exact ⟨A', k', key 0 _ (by omega) a0, key 1 _ (by omega) a1, key 2 _ (by omega) a2, key 3 _ (by omega) a3, key 4 _ (by omega) a4, key 5 _ (by omega) a5, hs'.seq, hf'⟩
end Go.Proofs.Ytiedaongfjcbhaa
