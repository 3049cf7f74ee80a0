/- Package table: Parse. -/
import Derived.Test.YtiedaongfjcbhaaPar6
namespace Go.Proofs.Ytiedaongfjcbhaa
open Go.RowKit

def zeroT : Value := .agg #[.int .i64 0, .int .u8 0, .slice none 0 0]
/-- What Parse hands back. -/
def ParseEnd (l : List UInt8) (w : World) (e : Ending) (w' : World) : Prop :=
  Below w.heap.size w w' ∧ match parseT l with
    | .form n => e = .returned (.tuple #[zeroT, .int .i64 (n : Nat), .int .i64 3])
    | .done m a rs => if chkE m a rs = 0 then (0 ≤ a ∧ a < 256) ∧ ∃ A k, rs.length ≤ k ∧ e = .returned (.tuple #[.agg #[.int .i64 m, .int .u8 a, .slice A rs.length k], .int .i64 0, .int .i64 0]) ∧ Rules w' w'.heap.size A rs
        else e = .returned (.tuple #[zeroT, .int .i64 (chkI m a rs), .int .i64 (chkE m a rs)])
theorem ParseEnd.form {l : List UInt8} {w w' : World} {n : Nat} (h : parseT l = .form n) (hb : Below w.heap.size w w') : ParseEnd l w (.returned (.tuple #[zeroT, .int .i64 (n : Nat), .int .i64 3])) w' := by
  refine ⟨hb, ?_⟩
  rw [h]
theorem ParseEnd.bad {l : List UInt8} {w w' : World} {m a : Int} {rs : List Rule} (h : parseT l = .done m a rs) (he : ¬ chkE m a rs = 0) (hb : Below w.heap.size w w') : ParseEnd l w (.returned (.tuple #[zeroT, .int .i64 (chkI m a rs), .int .i64 (chkE m a rs)])) w' := by
  refine ⟨hb, ?_⟩
  rw [h]
  simp [he]
theorem ParseEnd.good {l : List UInt8} {w w' : World} {m a : Int} {rs : List Rule} {A : Option Addr} {k : Nat} (h : parseT l = .done m a rs) (he : chkE m a rs = 0) (hb : Below w.heap.size w w') (ha : 0 ≤ a ∧ a < 256) (hk : rs.length ≤ k) (hr : Rules w' w'.heap.size A rs) : ParseEnd l w (.returned (.tuple #[.agg #[.int .i64 m, .int .u8 a, .slice A rs.length k], .int .i64 0, .int .i64 0])) w' := by
  refine ⟨hb, ?_⟩
  rw [h]
  simp only
  rw [if_pos he]
  exact ⟨ha, A, k, hk, rfl, hr⟩
theorem Rules.set {w : World} {A : Option Addr} {rs : List Rule} {q i lo : Nat} (h : Rules w lo A rs) (hlo : lo ≤ q) (v : Value) : Rules (w.setCell ⟨q, i, none⟩ v) lo A rs := h.keep ((Below.refl lo w).setCell hlo v)
theorem info_rule : (Try.prog.info? 55).map (fun i => (i.zero, i.size, i.bytes)) = some (some (.agg #[.string ⟨#[]⟩, .slice none 0 0, .int .u8 0, .int .u8 0, .int .i64 0, .int .i64 0]), 6, 64) := by kernel_rfl
theorem own_ne2 {w : World} {base size n g : Nat} {e t : TypeId} {v : Value} {xs : List Value} {row : Array Value} (h : w.ownsRow base e size v n xs) (hg : Blk w g t row) (hne : e ≠ t) : v.ownBlock = none ∨ v.ownBlock ≠ some g := by
  rcases h.2 with ⟨rfl, _⟩ | ⟨q, cap, cur, rfl, _, hblk, _⟩
  · exact .inl rfl
  · refine .inr (fun e2 => ?_)
    have e3 : q = g := by simpa [Value.ownBlock] using e2
    exact Blk.type_ne hblk hg hne e3
theorem own_ne3 {w : World} {base size n g : Nat} {e t : TypeId} {v : Value} {xs : List Value} {row : Array Value} (h : w.ownsRow base e size v n xs) (hg : Blk w g t row) (hne : e ≠ t) : v.ownBlock ≠ some g := by
  intro e2
  rcases own_ne2 h hg hne with h | h
  · rw [h] at e2; cases e2
  · exact h e2
theorem own_set {w : World} {base size n q i : Nat} {e t : TypeId} {v : Value} {xs : List Value} {row : Array Value} (h : w.ownsRow base e size v n xs) (hQ : Blk w q t row) (hne : e ≠ t) (u : Value) : (w.setCell ⟨q, i, none⟩ u).ownsRow base e size v n xs :=
  h.kept (gb_setCell _ _ _ _) (own_ne2 h hQ hne)
theorem Blk.box {w : World} {q : Nat} {t e : TypeId} {row vs : Array Value} (h : Blk w q t row) : Blk (w.alloc (.cells vs e)) q t row := h.keep (below_box _ _ _) (Blk.lt h)
theorem Blk.row {w w' : World} {base size n q : Nat} {e t : TypeId} {v : Value} {xs : List Value} {row : Array Value} (h : w.ownsRow base e size v n xs) (hg : w.grownBy w' v.ownBlock) (hQ : Blk w q t row) (hne : e ≠ t) : Blk w' q t row := (hg.block q (Blk.lt hQ) (own_ne3 h hQ hne).symm).trans hQ
end Go.Proofs.Ytiedaongfjcbhaa
