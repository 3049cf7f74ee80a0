/- Merged by program: Par1 Par2 Par3 Par4 Par5 Par6 Par7 -/
import Derived.Test.YtpkdlljefkbmpaaQ4
import Derived.Lib.IndexLaws
import Derived.Deep.LoopGhost

/-! Package table: the reader's pieces. -/
namespace Go.Proofs.Ytpkdlljefkbmpaa
open Go.RowKit

theorem gb_setCell (w : World) (g i : Nat) (v : Value) : w.grownBy (w.setCell ⟨g, i, none⟩ v) (some g) :=
 ⟨rfl, rfl, rfl, by simp, fun q _ hr => Below.heap_setCell w ⟨g, i, none⟩ v q (fun e => hr (by rw [e]))⟩
theorem Blk.gb {w a : World} {g q : Nat} {t : TypeId} {row : Array Value} (h : Blk w q t row) (hg : w.grownBy a (some g)) (hne : q ≠ g) : Blk a q t row :=
 (hg.block q h.lt (fun e => by injection e with e; exact hne e)).trans h

def cutAt (c : UInt8) : List UInt8 → Option (List UInt8 × List UInt8)
 | [] => none
 | b :: r => if b == c then some ([], r) else (cutAt c r).map fun pq => (b :: pq.1, pq.2)
def pieceL (c : UInt8) (l : List UInt8) : List UInt8 := match cutAt c l with | some pq => pq.1 | none => l
def restL (c : UInt8) (l : List UInt8) : List UInt8 := match cutAt c l with | some pq => pq.2 | none => []
def usedB (c : UInt8) (l : List UInt8) (u : Bool) : Bool := match cutAt c l with | some _ => u | none => true
end Go.Proofs.Ytpkdlljefkbmpaa

/-! Package table: the reader's fields: next, word, number, complete, modes. -/
namespace Go.Proofs.Ytpkdlljefkbmpaa
open Go.RowKit

structure Fds where
 rest : List UInt8
 used : Bool
 wrong : Bool
def Fds.word (s : Fds) : List UInt8 := pieceL 32 s.rest
def Fds.next (s : Fds) : Fds := ⟨restL 32 s.rest, usedB 32 s.rest s.used, s.wrong⟩
def Fds.bad (s : Fds) (b : Bool) : Fds := ⟨s.rest, s.used, s.wrong || b⟩
def numF (most : Int) (l : List UInt8) : Option Int := match atoiE l with
 | some n => if 0 ≤ n ∧ n ≤ most ∧ Lib.itoa n = l then some n else none
 | none => none
def Fds.num (s : Fds) (most : Int) : Int := (numF most s.word).getD 0
def Fds.numS (s : Fds) (most : Int) : Fds := s.next.bad (numF most s.word).isNone
def modesW : List UInt8 := [109, 111, 100, 101, 115]
def acceptW : List UInt8 := [97, 99, 99, 101, 112, 116]
def Fds.wordS (s : Fds) (x : List UInt8) : Fds := s.next.bad (!eqB s.word x)
def Fds.m1 (s : Fds) : Fds := s.wordS modesW
def Fds.m2 (s : Fds) : Fds := s.m1.numS 999
def Fds.m3 (s : Fds) : Fds := s.m2.wordS acceptW
def Fds.m4 (s : Fds) : Fds := s.m3.numS 255
end Go.Proofs.Ytpkdlljefkbmpaa

/-! Package table: the reader's cells. -/
namespace Go.Proofs.Ytpkdlljefkbmpaa
open Go.RowKit

def cellsG : Nat → List UInt8 → List Int → Option (List Int)
 | 0, _, _ => none
 | k + 1, l, acc => if paE (bytes (strU (pieceL 45 l))) = 0 then (if usedB 45 l false then some (acc ++ [paC (bytes (strU (pieceL 45 l)))]) else cellsG k (restL 45 l) (acc ++ [paC (bytes (strU (pieceL 45 l)))])) else none
def Fds.cs (s : Fds) : Option (List Int) := cellsG (s.word.length + 1) s.word []
def Fds.csL (s : Fds) : List Int := s.cs.getD []
def Fds.csS (s : Fds) : Fds := s.next.bad s.cs.isNone
def SeqT (w : World) (lo : Nat) (A : Option Addr) (xs : List Int) : Prop :=
 0 < xs.length → ∃ b o : Nat, A = some ⟨b, o, none⟩ ∧ lo ≤ b ∧ (∃ cur, Blk w b 96 cur) ∧ ∀ j (h : j < xs.length), w.cell? ⟨b, o + j, none⟩ = some (.int .u8 xs[j])
theorem SeqT.nil {w : World} {lo : Nat} {A : Option Addr} : SeqT w lo A [] := fun h => absurd h (by simp)
theorem SeqT.seq {w : World} {lo : Nat} {A : Option Addr} {xs : List Int} (h : SeqT w lo A xs) : Seq w w.heap.size A xs := fun hl => by
 obtain ⟨b, o, e, _, ⟨cur, hb⟩, hc⟩ := h hl
 exact ⟨b, o, e, Blk.lt hb, hc⟩
theorem SeqT.less {w : World} {lo lo' : Nat} {A : Option Addr} {xs : List Int} (h : SeqT w lo A xs) (hl : lo' ≤ lo) : SeqT w lo' A xs := fun hn => by
 obtain ⟨b, o, e, h1, h2⟩ := h hn
 exact ⟨b, o, e, Nat.le_trans hl h1, h2⟩
theorem SeqT.move {w w' : World} {lo : Nat} {A : Option Addr} {xs : List Int} (h : SeqT w lo A xs) (hk : ∀ b cur, Blk w b 96 cur → w'.heap[b]? = w.heap[b]?) : SeqT w' lo A xs := fun hn => by
 obtain ⟨b, o, e, h1, ⟨cur, hb⟩, hc⟩ := h hn
 have hk2 := hk b cur hb
 exact ⟨b, o, e, h1, ⟨cur, hk2.trans hb⟩, fun j hj => (World.cell?_of_block (a := ⟨b, o + j, none⟩) hk2).trans (hc j hj)⟩
theorem Blk.type_ne {w : World} {b q : Nat} {t t' : TypeId} {r r' : Array Value} (h : Blk w b t r) (h' : Blk w q t' r') (hne : t ≠ t') : b ≠ q := by
 rintro rfl
 unfold Blk at h h'
 rw [h] at h'
 injection h' with h'
 injection h' with _ ht
 exact hne ht
theorem SeqT.below {w w' : World} {lo : Nat} {A : Option Addr} {xs : List Int} (h : SeqT w lo A xs) (hb : Below w.heap.size w w') : SeqT w' lo A xs := h.move fun b _ hB => hb.block b (Blk.lt hB)
theorem SeqT.gb {w w' : World} {lo g : Nat} {A : Option Addr} {xs : List Int} (h : SeqT w lo A xs) (hg : w.grownBy w' (some g)) {t : TypeId} {row : Array Value} (hG : Blk w g t row) (hne : 96 ≠ t) : SeqT w' lo A xs :=
 h.move fun b _ hB => hg.block b (Blk.lt hB) (fun e => by injection e with e; exact Blk.type_ne hB hG hne e)
theorem SeqT.set {w : World} {lo q i : Nat} {A : Option Addr} {xs : List Int} (h : SeqT w lo A xs) {t : TypeId} {row : Array Value} (hQ : Blk w q t row) (hne : 96 ≠ t) (v : Value) : SeqT (w.setCell ⟨q, i, none⟩ v) lo A xs :=
 h.move fun b _ hB => Below.heap_setCell w ⟨q, i, none⟩ v b (fun e => Blk.type_ne hB hQ hne e)
theorem own_seqT {w : World} {lo n k : Nat} {A : Option Addr} {xs : List Int} (h : w.ownsRow lo 96 1 (.slice A n k) n (xs.map (Value.int .u8))) : SeqT w lo A xs := fun hl => by
 obtain ⟨hlen, hform⟩ := id h
 have hln : xs.length = n := by simpa using hlen
 rcases hform with ⟨e, hn0⟩ | ⟨g, cap, cur, e, hg, hblk, _⟩
 ·
  omega
 ·
  injection e with e1 e2 e3
  subst e1
  refine ⟨g, 0, rfl, hg, ⟨cur, hblk⟩, fun j hj => ?_⟩
  rw [Nat.zero_add, h.cellAt j (by omega)]
  simp [hj]
end Go.Proofs.Ytpkdlljefkbmpaa

/-! Package table: what a rule prints, read. -/
namespace Go.Proofs.Ytpkdlljefkbmpaa
open Go.RowKit

def hexD : List UInt8 := [48, 49, 50, 51, 52, 53, 54, 55, 56, 57, 97, 98, 99, 100, 101, 102]
def hexV (l : List UInt8) (i : Nat) : Int := Lib.indexByte hexD (l.getD i 0)
def hexOk (l : List UInt8) (i : Nat) : Bool := decide (0 ≤ hexV l (2 * i)) && decide (0 ≤ hexV l (2 * i + 1))
def hexW (l : List UInt8) (i : Nat) : Int := hexV l (2 * i) * 16 + hexV l (2 * i + 1)
def prOf (l : List UInt8) : Option (List Int) := if l = [46] then some [] else if l = [] then none else if l.length % 2 = 1 then none else if (List.range (l.length / 2)).all (hexOk l) then some ((List.range (l.length / 2)).map (hexW l)) else none
def Fds.prL (s : Fds) : List Int := (prOf s.word).getD []
def Fds.prS (s : Fds) : Fds := s.next.bad (prOf s.word).isNone
end Go.Proofs.Ytpkdlljefkbmpaa

/-! Package table: a rule, read. -/
namespace Go.Proofs.Ytpkdlljefkbmpaa
open Go.RowKit

def Fds.r1 (s : Fds) : Fds := s.numS 999
def Fds.r2 (s : Fds) : Fds := s.r1.numS 999
def Fds.r3 (s : Fds) : Fds := s.r2.numS 255
def Fds.r4 (s : Fds) : Fds := s.r3.numS 255
def Fds.r5 (s : Fds) : Fds := s.r4.csS
def Fds.r6 (s : Fds) : Fds := s.r5.prS
def Fds.ru (s : Fds) : Rule := ⟨strOf s.r5.prL, s.r4.csL, s.r2.num 255, s.r3.num 255, s.num 999, s.r1.num 999⟩
end Go.Proofs.Ytpkdlljefkbmpaa

/-! Package table: Parse as a plain function; lists of rules of the call's own. -/
namespace Go.Proofs.Ytpkdlljefkbmpaa
open Go.RowKit

def lineF (l : List UInt8) : Fds := ⟨l, false, false⟩
def Fds.ok (s : Fds) : Bool := s.used && !s.wrong
inductive ParseR where
 | form (n : Nat)
 | done (m a : Int) (rs : List Rule)
def parseG : Nat → Nat → List UInt8 → Int → Int → List Rule → ParseR
 | 0, n, _, _, _, _ => .form n
 | k + 1, n, R, m, a, rs =>
  if n = 0 then
   if usedB 10 R false || !(lineF (pieceL 10 R)).m4.ok then .form 0
   else parseG k 1 (restL 10 R) ((lineF (pieceL 10 R)).m1.num 999) ((lineF (pieceL 10 R)).m3.num 255) rs
  else if R = [] then .done m a rs
  else if usedB 10 R false || !(lineF (pieceL 10 R)).r6.ok then .form n
  else parseG k (n + 1) (restL 10 R) m a (rs ++ [(lineF (pieceL 10 R)).ru])
def parseT (l : List UInt8) : ParseR := parseG (l.length + 2) 0 l 0 0 []
def RulesV (w : World) (lo : Nat) (vals : List Value) (rs : List Rule) : Prop :=
 vals.length = rs.length * 6 ∧ ∀ j (h : j < rs.length), ∃ A k, vals[j * 6]? = some (.string rs[j].p) ∧ vals[j * 6 + 1]? = some (.slice A rs[j].c.length k) ∧ vals[j * 6 + 2]? = some (.int .u8 rs[j].l) ∧ vals[j * 6 + 3]? = some (.int .u8 rs[j].r) ∧ vals[j * 6 + 4]? = some (.int .i64 rs[j].f) ∧ vals[j * 6 + 5]? = some (.int .i64 rs[j].t) ∧ SeqT w lo A rs[j].c ∧ rs[j].fits
theorem RulesV.nil {w : World} {lo : Nat} : RulesV w lo [] [] := ⟨rfl, fun j h => absurd h (by simp)⟩
theorem RulesV.move {w w' : World} {lo : Nat} {vals : List Value} {rs : List Rule} (h : RulesV w lo vals rs) (hk : ∀ b cur, Blk w b 96 cur → w'.heap[b]? = w.heap[b]?) : RulesV w' lo vals rs :=
 ⟨h.1, fun j hj => by
  obtain ⟨A, k, a0, a1, a2, a3, a4, a5, hs, hf⟩ := h.2 j hj
  exact ⟨A, k, a0, a1, a2, a3, a4, a5, hs.move hk, hf⟩⟩
theorem RulesV.below {w w' : World} {lo : Nat} {vals : List Value} {rs : List Rule} (h : RulesV w lo vals rs) (hb : Below w.heap.size w w') : RulesV w' lo vals rs := h.move fun b _ hB => hb.block b (Blk.lt hB)
theorem RulesV.gb {w w' : World} {lo g : Nat} {vals : List Value} {rs : List Rule} (h : RulesV w lo vals rs) (hg : w.grownBy w' (some g)) {t : TypeId} {row : Array Value} (hG : Blk w g t row) (hne : 96 ≠ t) : RulesV w' lo vals rs :=
 h.move fun b _ hB => hg.block b (Blk.lt hB) (fun e => by injection e with e; exact Blk.type_ne hB hG hne e)
theorem RulesV.set {w : World} {lo q i : Nat} {vals : List Value} {rs : List Rule} (h : RulesV w lo vals rs) {t : TypeId} {row : Array Value} (hQ : Blk w q t row) (hne : 96 ≠ t) (v : Value) : RulesV (w.setCell ⟨q, i, none⟩ v) lo vals rs :=
 h.move fun b _ hB => Below.heap_setCell w ⟨q, i, none⟩ v b (fun e => Blk.type_ne hB hQ hne e)
theorem RulesV.grown {w w' : World} {lo base n : Nat} {v : Value} {xs vals : List Value} {rs : List Rule} (h : RulesV w lo vals rs) (hown : w.ownsRow base 99 6 v n xs) (hg : w.grownBy w' v.ownBlock) : RulesV w' lo vals rs :=
 h.move fun b _ hB => hg.block b (Blk.lt hB) (fun e => by
  rcases hown.2 with ⟨rfl, _⟩ | ⟨g, cap, cur', rfl, _, hblk, _⟩
  ·
   cases e
  ·
   have e2 : b = g := by simpa [Value.ownBlock] using e
   exact Blk.type_ne hB (t' := 99) hblk (by decide) e2)
def ruleVals (A : Option Addr) (k : Nat) (x : Rule) : List Value := [.string x.p, .slice A x.c.length k, .int .u8 x.l, .int .u8 x.r, .int .i64 x.f, .int .i64 x.t]
theorem RulesV.snoc {w : World} {lo k : Nat} {A : Option Addr} {vals : List Value} {rs : List Rule} {x : Rule} (h : RulesV w lo vals rs) (hs : SeqT w lo A x.c) (hf : x.fits) : RulesV w lo (vals ++ ruleVals A k x) (rs ++ [x]) := by
 obtain ⟨hl, hr⟩ := h
 refine ⟨by simp [ruleVals, hl]; omega, fun j hj => ?_⟩
 rcases Nat.lt_or_ge j rs.length with g | g
 ·
  obtain ⟨A', k', a0, a1, a2, a3, a4, a5, hs', hf'⟩ := hr j g
  have e : (rs ++ [x])[j] = rs[j] := List.getElem_append_left g
  have key : ∀ i u, i < vals.length → vals[i]? = some u → (vals ++ ruleVals A k x)[i]? = some u := fun i u hi hu => by rw [List.getElem?_append_left hi]; exact hu
  rw [e]
  exact ⟨A', k', key _ _ (by omega) a0, key _ _ (by omega) a1, key _ _ (by omega) a2, key _ _ (by omega) a3, key _ _ (by omega) a4, key _ _ (by omega) a5, hs', hf'⟩
 ·
  obtain rfl : j = rs.length := by simp at hj; omega
  have e : (rs ++ [x])[rs.length] = x := by simp
  have key : ∀ i, (vals ++ ruleVals A k x)[rs.length * 6 + i]? = (ruleVals A k x)[i]? := fun i => by
   rw [List.getElem?_append_right (by omega)]
   congr 1; omega
  rw [e]
  exact ⟨A, k, (key 0).trans rfl, (key 1).trans rfl, (key 2).trans rfl, (key 3).trans rfl, (key 4).trans rfl, (key 5).trans rfl, hs, hf⟩
theorem RulesV.rules {w : World} {lo base n k : Nat} {A : Option Addr} {vals : List Value} {rs : List Rule} (h : RulesV w lo vals rs) (hown : w.ownsRow base 99 6 (.slice A n k) n vals) : Rules w w.heap.size A rs ∧ n = rs.length ∧ n ≤ k := by
 obtain ⟨hl, hr⟩ := h
 have hn : n = rs.length := by have := hown.1; omega
 subst hn
 rcases hown.2 with ⟨e, hn0⟩ | ⟨g, cap, cur, e, hg, hblk, hcap, _⟩
 ·
  injection e with e1 e2 e3
  exact ⟨fun h => by omega, rfl, by omega⟩
 ·
  injection e with e1 e2 e3
  subst e1 e3
  refine ⟨fun _ => ⟨g, 0, rfl, Blk.lt hblk, fun j hj => ?_⟩, rfl, hcap⟩
  obtain ⟨A', k', a0, a1, a2, a3, a4, a5, hs', hf'⟩ := hr j hj
  have key : ∀ i u, i < 6 → vals[j * 6 + i]? = some u → w.cell? ⟨g, 0 + j * 6 + i, none⟩ = some u := fun i u hi hu => by
   rw [Nat.zero_add, hown.cellAt _ (by omega)]; exact hu
  exact ⟨A', k', key 0 _ (by omega) a0, key 1 _ (by omega) a1, key 2 _ (by omega) a2, key 3 _ (by omega) a3, key 4 _ (by omega) a4, key 5 _ (by omega) a5, hs'.seq, hf'⟩
end Go.Proofs.Ytpkdlljefkbmpaa

/-! Package table: Parse. -/
namespace Go.Proofs.Ytpkdlljefkbmpaa
open Go.RowKit

def zeroT : Value := .agg #[.int .i64 0, .int .u8 0, .slice none 0 0]
def ParseEnd (l : List UInt8) (w : World) (e : Ending) (w' : World) : Prop :=
 Below w.heap.size w w' ∧ match parseT l with
  | .form n => e = .returned (.tuple #[zeroT, .int .i64 (n : Nat), .int .i64 3])
  | .done m a rs => if chkE m a rs = 0 then (0 ≤ a ∧ a < 256) ∧ ∃ A k, rs.length ≤ k ∧ e = .returned (.tuple #[.agg #[.int .i64 m, .int .u8 a, .slice A rs.length k], .int .i64 0, .int .i64 0]) ∧ Rules w' w'.heap.size A rs
    else e = .returned (.tuple #[zeroT, .int .i64 (chkI m a rs), .int .i64 (chkE m a rs)])
theorem ParseEnd.form {l : List UInt8} {w w' : World} {n : Nat} (h : parseT l = .form n) (hb : Below w.heap.size w w') : ParseEnd l w (.returned (.tuple #[zeroT, .int .i64 (n : Nat), .int .i64 3])) w' := by
 refine ⟨hb, ?_⟩
 rw [h]
theorem ParseEnd.bad {l : List UInt8} {w w' : World} {m a : Int} {rs : List Rule} (h : parseT l = .done m a rs) (he : ¬ chkE m a rs = 0) (hb : Below w.heap.size w w') : ParseEnd l w (.returned (.tuple #[zeroT, .int .i64 (chkI m a rs), .int .i64 (chkE m a rs)])) w' := by
 refine ⟨hb, ?_⟩
 rw [h]
 simp [he]
theorem ParseEnd.good {l : List UInt8} {w w' : World} {m a : Int} {rs : List Rule} {A : Option Addr} {k : Nat} (h : parseT l = .done m a rs) (he : chkE m a rs = 0) (hb : Below w.heap.size w w') (ha : 0 ≤ a ∧ a < 256) (hk : rs.length ≤ k) (hr : Rules w' w'.heap.size A rs) : ParseEnd l w (.returned (.tuple #[.agg #[.int .i64 m, .int .u8 a, .slice A rs.length k], .int .i64 0, .int .i64 0])) w' := by
 refine ⟨hb, ?_⟩
 rw [h]
 simp only
 rw [if_pos he]
 exact ⟨ha, A, k, hk, rfl, hr⟩
theorem Rules.set {w : World} {A : Option Addr} {rs : List Rule} {q i lo : Nat} (h : Rules w lo A rs) (hlo : lo ≤ q) (v : Value) : Rules (w.setCell ⟨q, i, none⟩ v) lo A rs := h.keep ((Below.refl lo w).setCell hlo v)
theorem info_rule : (Try.prog.info? 99).map (fun i => (i.zero, i.size, i.bytes)) = some (some (.agg #[.string ⟨#[]⟩, .slice none 0 0, .int .u8 0, .int .u8 0, .int .i64 0, .int .i64 0]), 6, 64) := by kernel_rfl
theorem own_ne2 {w : World} {base size n g : Nat} {e t : TypeId} {v : Value} {xs : List Value} {row : Array Value} (h : w.ownsRow base e size v n xs) (hg : Blk w g t row) (hne : e ≠ t) : v.ownBlock = none ∨ v.ownBlock ≠ some g := by
 rcases h.2 with ⟨rfl, _⟩ | ⟨q, cap, cur, rfl, _, hblk, _⟩
 ·
  exact .inl rfl
 ·
  refine .inr (fun e2 => ?_)
  have e3 : q = g := by simpa [Value.ownBlock] using e2
  exact Blk.type_ne hblk hg hne e3
theorem own_ne3 {w : World} {base size n g : Nat} {e t : TypeId} {v : Value} {xs : List Value} {row : Array Value} (h : w.ownsRow base e size v n xs) (hg : Blk w g t row) (hne : e ≠ t) : v.ownBlock ≠ some g := by
 intro e2
 rcases own_ne2 h hg hne with h | h
 ·
  rw [h] at e2; cases e2
 ·
  exact h e2
theorem own_set {w : World} {base size n q i : Nat} {e t : TypeId} {v : Value} {xs : List Value} {row : Array Value} (h : w.ownsRow base e size v n xs) (hQ : Blk w q t row) (hne : e ≠ t) (u : Value) : (w.setCell ⟨q, i, none⟩ u).ownsRow base e size v n xs :=
 h.kept (gb_setCell _ _ _ _) (own_ne2 h hQ hne)
theorem Blk.box {w : World} {q : Nat} {t e : TypeId} {row vs : Array Value} (h : Blk w q t row) : Blk (w.alloc (.cells vs e)) q t row := h.keep (below_box _ _ _) (Blk.lt h)
theorem Blk.row {w w' : World} {base size n q : Nat} {e t : TypeId} {v : Value} {xs : List Value} {row : Array Value} (h : w.ownsRow base e size v n xs) (hg : w.grownBy w' v.ownBlock) (hQ : Blk w q t row) (hne : e ≠ t) : Blk w' q t row := (hg.block q (Blk.lt hQ) (own_ne3 h hQ hne).symm).trans hQ
end Go.Proofs.Ytpkdlljefkbmpaa
