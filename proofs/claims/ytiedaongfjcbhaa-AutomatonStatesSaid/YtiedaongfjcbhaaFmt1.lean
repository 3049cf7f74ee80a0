/- Package table: formatPrint, formatCells. -/
import Derived.Test.YtiedaongfjcbhaaLaid
import Derived.Test.YtiedaongfjcbhaaTab7
import Derived.StillTailTactics
import Derived.OwnWalk
import Derived.Lib.Join
namespace Go.Proofs.Ytiedaongfjcbhaa
open Go.RowKit

def toU (l : List Int) : List UInt8 := l.map fun n => UInt8.ofNat n.toNat
theorem strOf_toU (l : List Int) : strOf l = strU (toU l) := rfl
def hexL : List Nat := [48, 49, 50, 51, 52, 53, 54, 55, 56, 57, 97, 98, 99, 100, 101, 102]
def hexB : ByteArray := ⟨#[48, 49, 50, 51, 52, 53, 54, 55, 56, 57, 97, 98, 99, 100, 101, 102]⟩
def hexI (d : Nat) : Int := (hexL.getD d 0 : Nat)
/-- Two digits for each byte. -/
def hexes (l : List Nat) : List Int := l.flatMap fun b => [hexI (b / 16), hexI (b % 16)]
def fmtPrint (l : List Nat) : List Int := if l = [] then [46] else hexes l
theorem hexes_len (l : List Nat) : (hexes l).length = 2 * l.length := by
  induction l with
  | nil => rfl
  | cons a r ih => unfold hexes at *; rw [List.flatMap_cons, List.length_append, ih]; simp; omega
theorem hexes_snoc {l : List Nat} {j x : Nat} (h : l[j]? = some x) : hexes (l.take (j + 1)) = hexes (l.take j) ++ [hexI (x / 16), hexI (x % 16)] := by
  have hj : j < l.length := by
    rcases Nat.lt_or_ge j l.length with g | g
    · exact g
    · rw [List.getElem?_eq_none g] at h; cases h
  rw [List.getElem?_eq_getElem hj] at h
  injection h with h
  rw [List.take_succ_eq_append_getElem hj, h]
  unfold hexes
  rw [List.flatMap_append]; rfl
theorem hexB_size : hexB.size = 16 := by decide
theorem hexB_get (k : Nat) (h : k < hexB.size) : (((hexB[k]'h).toNat : Nat) : Int) = hexI k := by
  have e : hexB.data.toList.map UInt8.toNat = hexL := by decide
  unfold hexI
  rw [← e, List.getD_eq_getElem?_getD, List.getElem?_map]
  have : hexB.data.toList[k]? = some (hexB[k]'h) := by
    rw [List.getElem?_eq_getElem (by simpa using h)]; rfl
  rw [this]; rfl
theorem hex_at (i : Int) (k : Nat) (hi : i = k) (h : i.toNat < (⟨#[48, 49, 50, 51, 52, 53, 54, 55, 56, 57, 97, 98, 99, 100, 101, 102]⟩ : ByteArray).size) : ((((⟨#[48, 49, 50, 51, 52, 53, 54, 55, 56, 57, 97, 98, 99, 100, 101, 102]⟩ : ByteArray)[i.toNat]'h).toNat : Nat) : Int) = hexI k := by
  subst hi; exact hexB_get k h
set_option maxRecDepth 10000 in
theorem low_byte (b : Int) (h0 : 0 ≤ b) (hb : b < 256) : bits .and .u8 b 15 = b % 16 := by
  have h := allB_int (n := 256) (p := fun b => decide (bits .and .u8 (b : Int) 15 = (b : Int) % 16)) (by decide +kernel) b h0 hb
  rw [show ((b.toNat : Nat) : Int) = b from by omega] at h
  exact of_decide_eq_true h
theorem add_zero_addr (b j : Nat) : (⟨b, 0, none⟩ : Addr).add j = ⟨b, j, none⟩ := by unfold Addr.add; split <;> simp_all
/-- The cells of a block that a literal has just made. -/
theorem cells_lit_new (w : World) (cs : List Value) (t : TypeId) : ∀ (j : Nat) (u : Value), cs[j]? = some u → (w.alloc (.cells cs.toArray t)).cell? ((⟨w.heap.size, 0, none⟩ : Addr).add j) = some u := fun j u h => by
  rw [add_zero_addr, cell_of_row _ _ _ _ _ _ (Go.heap_alloc_new _ _)]
  simpa using h
section
variable {P : Program} {ops : Array Oper}
/-- append onto a row of the call's own, as one step of a region that draws. -/
theorem step_append_own {w : World} {o : Oper} {a : Act} {K : Act → World → Prop} {Q : Exit → Act → World → Prop} {E : Prop} (hgd : o.guard = none) (s x : Operand) (t : TypeId)
    (ho : o.op = .call { callee := .builtin .append, args := #[s, x], argTypes := #[t, t] })
    (base : Nat) (e : TypeId) (i : TypeInfo) (z : Value) (size bytes : Nat) (ht : P.underlying t = some (.slice e)) (hi : P.info? e = some i) (hz : i.zero = some z)
    (hsize : i.size = size) (hby : i.bytes = bytes) (hzs : z.cells.size = size) (hsz : 0 < size)
    (v : Value) (n : Nat) (xs : List Value) (hs : a.eval s = v) (hown : w.ownsRow base e size v n xs)
    (ad : Addr) (m c : Nat) (news : List Value) (hx : a.eval x = .slice (some ad) m c) (hl : news.length = m * size) (hnews : ∀ j u, news[j]? = some u → w.cell? (ad.add j) = some u) (h1 : ∀ u ∈ news, u.oneCell' = true)
    (h63 : n + m ≤ maxLen) (hbytes : (n + m) * bytes ≤ 140737488355328) (hbase : base ≤ w.heap.size)
    (h : ∀ v' w', w'.ownsRow base e size v' (n + m) (xs ++ news) → w.grownBy w' v.ownBlock → K (a.put o.dst v') w') :
    if Region.wanted o (yielded ops a.tmps) = true then Oper.wp P o a w K Q else E := by
  have hw : Region.wanted o (yielded ops a.tmps) = true := by simp [Region.wanted, hgd]
  rw [if_pos hw]
  exact wp_append_own w s x t ho base e i z size bytes ht hi hz hsize hby hzs hsz v n xs hs hown ad m c news hx hl hnews h1 h63 hbytes hbase fun v' w' h2 h3 _ => h v' w' h2 h3
end
end Go.Proofs.Ytiedaongfjcbhaa
