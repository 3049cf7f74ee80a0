/- Merged by program: Base Inv Laid Kp Gph -/
import Derived.Test.YtpkdlljefkbmpaaRows
import Derived.WalkKit
import Derived.WalkSpells
import Derived.WalkLawsBesides
import Derived.BigQuiet
import Derived.Deep.QuietTactic
import Derived.Deep.WholeRow
import Derived.Lib.Hide
import Derived.RegionTactic
import Derived.Test.YtpkdlljefkbmpaaShelf
import Derived.WalkSmall
import Derived.Lib.AppendIntMem
import Derived.Lib.SmallJoins

/-! Plain facts on bytes, rows, strings and blocks of memory: shared by all texts of a seat. -/
namespace Go.Proofs.Ytpkdlljefkbmpaa
open Go.RowKit

theorem ret_int {k : IntKind} {a b : Int} (h : a = b) : Ending.returned (.int k a) = .returned (.int k b) := by rw [h]
theorem ret_bool {a b : Bool} (h : a = b) : Ending.returned (.bool a) = .returned (.bool b) := by rw [h]
def allB (n : Nat) (p : Nat → Bool) : Bool := (List.range n).all p
theorem allB_out {n : Nat} {p : Nat → Bool} (h : allB n p = true) (x : Nat) (hx : x < n) : p x = true := by
 unfold allB at h; rw [List.all_eq_true] at h; exact h x (List.mem_range.2 hx)
theorem allB_int {n : Nat} {p : Nat → Bool} (h : allB n p = true) (x : Int) (h0 : 0 ≤ x) (hx : x < n) : p x.toNat = true :=
 allB_out h _ (by omega)
theorem allB2_out {n m : Nat} {p : Nat → Nat → Bool} (h : allB n (fun x => allB m (p x)) = true) (x y : Nat) (hx : x < n) (hy : y < m) : p x y = true :=
 allB_out (allB_out h x hx) y hy
def rowOf (f : Nat → Value) (n : Nat) : Array Value := ((List.range n).map f).toArray
theorem rowOf_get (f : Nat → Value) (n j : Nat) (h : j < n) : (rowOf f n)[j]? = some (f j) := by simp [rowOf, h]
theorem rowOf_set (f g : Nat → Value) (n k : Nat) (v : Value) (hv : g k = v) (ho : ∀ j, j ≠ k → g j = f j) :
  (rowOf f n).setIfInBounds k v = rowOf g n := by
 apply Array.ext'
 unfold rowOf
 rw [Array.toList_setIfInBounds]
 simp only
 apply List.ext_getElem?
 intro j
 rw [List.getElem?_set]
 by_cases h : k = j
 ·
  subst h
  by_cases hk : k < n <;> simp [hk, hv]
 ·
  simp only [if_neg h, List.getElem?_map]
  rcases Nat.lt_or_ge j n with hj | hj
  ·
   simp [hj, ho j (fun e => h e.symm)]
  ·
   simp [hj]
theorem rowOf_congr {f g : Nat → Value} {n : Nat} (h : ∀ j, j < n → f j = g j) : rowOf f n = rowOf g n := by
 unfold rowOf
 congr 1
 exact List.map_congr_left fun b hb => h b (List.mem_range.1 hb)
theorem ret_two {k1 k2 : IntKind} {a b c d : Int} (h : a = b) (h2 : c = d) : Ending.returned (.tuple #[.int k1 a, .int k2 c]) = .returned (.tuple #[.int k1 b, .int k2 d]) := by rw [h, h2]
def Seq (w : World) (B : Nat) (A : Option Addr) (xs : List Int) : Prop :=
 0 < xs.length → ∃ b o : Nat, A = some ⟨b, o, none⟩ ∧ b < B ∧ ∀ j (h : j < xs.length), w.cell? ⟨b, o + j, none⟩ = some (.int .u8 xs[j])
theorem Seq.nil {w : World} {B : Nat} {A : Option Addr} : Seq w B A [] := fun h => absurd h (by simp)
theorem Seq.keep {w w' : World} {B : Nat} {A : Option Addr} {xs : List Int} (h : Seq w B A xs) (hb : Below B w w') : Seq w' B A xs := fun hl => by
 obtain ⟨b, o, e, hB, hc⟩ := h hl
 exact ⟨b, o, e, hB, fun j hj => (hb.cell (p := ⟨b, o + j, none⟩) hB).trans (hc j hj)⟩
theorem Seq.more {w : World} {B B' : Nat} {A : Option Addr} {xs : List Int} (h : Seq w B A xs) (hB : B ≤ B') : Seq w B' A xs := fun hl => by
 obtain ⟨b, o, e, hb, hc⟩ := h hl
 exact ⟨b, o, e, by omega, hc⟩
theorem below_dN {B n : Nat} {a w : World} (h : Below B a w) : Below B a (w.drewN n) := ⟨h.os, h.tape, h.output, h.size, h.block⟩
theorem take_same {xs ys : List Int} {k : Nat} (hx : k < xs.length) (hy : k < ys.length) : (xs.take (k + 1) = ys.take (k + 1)) ↔ (xs.take k = ys.take k ∧ xs[k] = ys[k]) := by
 rw [List.take_succ_eq_append_getElem hx, List.take_succ_eq_append_getElem hy]
 constructor
 ·
  intro h
  have := List.append_inj' h rfl
  exact ⟨this.1, by simpa using this.2⟩
 ·
  rintro ⟨h1, h2⟩; rw [h1, h2]
def strOf (l : List Int) : ByteArray := ⟨(l.map fun n => UInt8.ofNat n.toNat).toArray⟩
theorem strOf_fold (l : List Int) (r : ByteArray) : l.foldl (fun r n => r.push (UInt8.ofNat n.toNat)) r = ⟨(r.data.toList ++ l.map fun n => UInt8.ofNat n.toNat).toArray⟩ := by
 induction l generalizing r with
 | nil => simp
 | cons a l ih => rw [List.foldl_cons, ih]; simp [ByteArray.push]
theorem strOf_eq (l : List Int) : l.foldl (fun r n => r.push (UInt8.ofNat n.toNat)) ByteArray.empty = strOf l := by
 rw [strOf_fold]; rfl
def Blk (w : World) (g : Nat) (t : TypeId) (row : Array Value) : Prop := w.heap[g]? = some (.cells row t (0, 0))
section
variable {w w' : World} {g B : Nat} {t : TypeId} {row : Array Value}
theorem Blk.lt (h : Blk w g t row) : g < w.heap.size := by
 rcases Nat.lt_or_ge g w.heap.size with hl | hl
 ·
  exact hl
 ·
  unfold Blk at h; rw [Array.getElem?_eq_none hl] at h; cases h
theorem Blk.cell (h : Blk w g t row) (i : Nat) : w.cell? ⟨g, i, none⟩ = row[i]? := cell_of_row _ _ _ _ _ _ h
theorem Blk.free (h : Blk w g t row) (i : Nat) : w.frozen? ⟨g, i, none⟩ = false := frozen_of_row _ _ _ _ _ h
theorem Blk.set (h : Blk w g t row) (i : Nat) (v : Value) : Blk (w.setCell ⟨g, i, none⟩ v) g t (row.setIfInBounds i v) := heap_setCell_same w g i row t v h
theorem Blk.keep (h : Blk w g t row) (hb : Below B w w') (hg : g < B) : Blk w' g t row := by unfold Blk; rw [hb.block g hg]; exact h
theorem Blk.new (w : World) (row : Array Value) (t : TypeId) : Blk (w.alloc (.cells row t)) w.heap.size t row := Go.heap_alloc_new w _
end
theorem made_row (z : Value) (n : Nat) : madeCells #[z] n = rowOf (fun _ => z) n := by
 apply Array.ext'
 rw [toList_madeCells_one]
 simp [rowOf, List.map_const']
theorem info_u8 : (Try.prog.info? 5).map (fun i => (i.zero, i.size, i.bytes)) = some (some (.int .u8 0), 1, 1) := by kernel_rfl
theorem info_cell : (Try.prog.info? 96).map (fun i => (i.zero, i.size, i.bytes)) = some (some (.int .u8 0), 1, 1) := by kernel_rfl
def bytes (s : ByteArray) : List Nat := s.data.toList.map UInt8.toNat
theorem bytes_len (s : ByteArray) : (bytes s).length = s.size := by simp [bytes]
theorem bytes_at (s : ByteArray) (i : Nat) (h : i < s.size) : (bytes s)[i]? = some (s[i]'h).toNat := by
 unfold bytes; rw [List.getElem?_map, List.getElem?_eq_getElem (by simpa using h)]; rfl
theorem bytes_lt (s : ByteArray) (b : Nat) (h : b ∈ bytes s) : b < 256 := by
 unfold bytes at h; rw [List.mem_map] at h; obtain ⟨u, _, rfl⟩ := h; exact u.toNat_lt
theorem tw_stop {l : List Nat} {p : Nat → Bool} : ∀ {j : Nat}, (∀ i b, i < j → l[i]? = some b → p b = true) → (∀ b, l[j]? = some b → p b = false) → j ≤ l.length → (l.takeWhile p).length = j := by
 induction l with
 | nil => intro j _ _ h; simp at h; subst h; rfl
 | cons a l ih =>
  intro j h1 h2 h3
  cases j with
  | zero => have := h2 a rfl; simp [this]
  | succ j =>
   have ha := h1 0 a (by omega) rfl
   rw [List.takeWhile_cons, ha]
   simp only [if_true, List.length_cons]
   rw [ih (fun i b hi hb => h1 (i + 1) b (by omega) hb) (fun b hb => h2 b hb) (by simpa using h3)]
theorem tw_all {l : List Nat} {p : Nat → Bool} (h : ∀ i b, i < l.length → l[i]? = some b → p b = true) : l.takeWhile p = l := by
 have := tw_stop (l := l) (p := p) (j := l.length) (fun i b hi hb => h i b hi hb) (fun b hb => by simp at hb) (Nat.le_refl _)
 exact (List.takeWhile_sublist (l := l) p).eq_of_length this
theorem conv_own (W : World) (B g n cap : Nat) (l : List Int) (hl : l.length = n) (h : W.ownsRow B 5 1 (.slice (some ⟨g, 0, none⟩) n cap) n (l.map (Value.int .u8))) :
  (convert 25 9 (.slice (some ⟨g, 0, none⟩) n cap)).run Try.prog W = .ok (.string (strOf l)) W := by
 rw [run_convert_bytes_string W _ _ _ _ _ _ Try.underlying25 Try.underlying5 Try.underlying9, run_bytesToString W _ n cap l, strOf_eq]
 have hl2 := run_loadCells_list (P := Try.prog) W ⟨g, 0, none⟩ (l.map (Value.int .u8)) (fun j v hv => by
  have hadd : (⟨g, 0, none⟩ : Addr).add j = ⟨g, j, none⟩ := by unfold Addr.add; split <;> simp_all
  have hj : j < n := by
   rcases Nat.lt_or_ge j n with g | g
   ·
    exact g
   ·
    rw [List.getElem?_eq_none (by simpa [hl] using g)] at hv; cases hv
  rw [hadd, h.cellAt j (by omega)]; exact hv)
 rw [← hl]; simpa using hl2
theorem below_next {w a b : World} (h : Below w.heap.size w a) (k : Below a.heap.size a b) : Below w.heap.size w b := h.trans (k.mono h.size)
theorem Seq.lit (w : World) (t : TypeId) (xs : List Int) : Seq (w.alloc (.cells (xs.map (Value.int .u8)).toArray t)) (w.heap.size + 1) (some ⟨w.heap.size, 0, none⟩) xs := fun hl => by
 refine ⟨w.heap.size, 0, rfl, by omega, fun j hj => ?_⟩
 rw [cell_of_row _ _ _ _ _ _ (Go.heap_alloc_new _ _)]
 simp [hj]
theorem strOf_size (l : List Int) : (strOf l).size = l.length := by simp [strOf, ByteArray.size]
end Go.Proofs.Ytpkdlljefkbmpaa

/-! A region that draws its order, by one invariant: each operation once. -/
namespace Go.Proofs.Ytpkdlljefkbmpaa
open Go.RowKit

theorem ready_nil {md : Region.Mode} {ops : Array Oper} (hac : ∀ (i : Nat) (o : Oper), ops[i]? = some o → ∀ e ∈ o.after, Region.binds md e = true → e.on < i)
  {listed : Array Bool} (hsz : listed.size = ops.size) (h : Region.ready md ops listed = []) : ∀ i, i < ops.size → listed.getD i false = true := by
 intro i
 induction i using Nat.strongRecOn with
 | ind i ih =>
  intro hi
  cases hb : listed.getD i false with
  | true => rfl
  | false =>
   have : i ∈ Region.ready md ops listed := by
    rw [mem_ready]
    refine ⟨?_, ops[i], by simp [hi], fun e he hb => ?_⟩
    ·
     have : i < listed.size := by omega
     simpa [this] using hb
    ·
     exact ih e.on (hac i _ (by simp [hi]) e he hb) (by have := hac i _ (by simp [hi]) e he hb; omega)
   rw [h] at this
   cases this
theorem count_set_lt {listed : Array Bool} {i : Nat} (hi : i < listed.size) (hb : listed.getD i true = false) :
  (listed.setIfInBounds i true).toList.count false + 1 = listed.toList.count false := by
 have h1 : listed.toList[i]'(by simpa using hi) = false := by simpa [hi] using hb
 have hpos : 0 < listed.toList.count false := by
  rw [List.count_pos_iff, ← h1]
  exact List.getElem_mem _
 rw [Array.toList_setIfInBounds, List.count_set (by simpa using hi), h1]
 show List.count false listed.toList - 1 + 0 + 1 = _
 omega
theorem wpAny_inv {P : Program} {md : Region.Mode} {ops : Array Oper} {Q : Exit → Act → World → Prop} (I : (Nat → Bool) → Act → World → Prop)
  (hac : ∀ (i : Nat) (o : Oper), ops[i]? = some o → ∀ e ∈ o.after, Region.binds md e = true → e.on < i)
  (hstep : ∀ (b : Nat → Bool) (a : Act) (w : World) (i : Nat), I b a w → i < ops.size → b i = false → (∀ o, ops[i]? = some o → ∀ e ∈ o.after, Region.binds md e = true → b e.on = true) → wpOp P ops Q i (I (fun j => if j = i then true else b j)) a w)
  (hdone : ∀ (b : Nat → Bool) (a : Act) (w : World), I b a w → (∀ i, i < ops.size → b i = true) → Q .normal a w) :
  ∀ (fuel : Nat) (listed : Array Bool) (a : Act) (w : World), listed.size = ops.size → I (fun j => listed.getD j false) a w → listed.toList.count false ≤ fuel → wpAny P md ops Q fuel listed a w := by
 intro fuel
 induction fuel with
 | zero =>
  intro listed a w hsz hI hc
  have hr : Region.ready md ops listed = [] := by
   rw [List.eq_nil_iff_forall_not_mem]
   intro i hi
   have h0 := (mem_ready.1 hi).1
   have hlt : i < listed.size := by
    rcases Nat.lt_or_ge i listed.size with h | h
    ·
     exact h
    ·
     simp [Array.getElem?_eq_none h] at h0
   have := count_set_lt hlt h0
   omega
  exact ⟨hr, hdone _ _ _ hI (ready_nil hac hsz hr)⟩
 | succ fuel ih =>
  intro listed a w hsz hI hc
  refine ⟨fun hr => hdone _ _ _ hI (ready_nil hac hsz hr), fun i hi => ?_⟩
  obtain ⟨h0, o, ho, hall⟩ := mem_ready.1 hi
  have hlt : i < listed.size := by
   rcases Nat.lt_or_ge i listed.size with h | h
   ·
    exact h
   ·
    simp [Array.getElem?_eq_none h] at h0
  have hcs := count_set_lt hlt h0
  refine wpOp_mono (fun a' w' h => ih _ a' w' (by simpa using hsz) ?_ (by omega)) (hstep _ a w i hI (by omega) (by simpa [hlt] using h0) (fun o' ho' e he hb => by rw [ho] at ho'; cases ho'; exact hall e he hb))
  have e : (fun j => (listed.setIfInBounds i true).getD j false) = fun j => if j = i then true else listed.getD j false := by
   funext j
   by_cases hj : j = i
   ·
    subst hj; simp [hlt]
   ·
    rw [getD_set_ne false (Ne.symm hj), if_neg hj]
  rw [e]
  exact h

def upd (y : Nat → Value) (i : Nat) (v : Value) : Nat → Value := fun j => if j = i then v else y j
theorem upd_at {y : Nat → Value} {i : Nat} {v : Value} (h : y i = v) : ∃ y1, y = upd y1 i v := ⟨y, by
 funext j
 by_cases hj : j = i
 ·
  subst hj; simp [upd, h]
 ·
  simp [upd, hj]⟩
def depsOf (ops : Array Oper) (i : Nat) : List Nat := ((ops[i]?).map fun o => (o.after.toList.filter (Region.binds .any)).map (·.on)).getD []
theorem allCons {p : Nat → Prop} {i : Nat} {l : List Nat} (h : p i) (hl : ∀ j ∈ l, p j) : ∀ j ∈ i :: l, p j := fun j hj => by
 rcases List.mem_cons.1 hj with rfl | hj
 ·
  exact h
 ·
  exact hl j hj
theorem allNil {p : Nat → Prop} : ∀ j ∈ ([] : List Nat), p j := fun _ h => by cases h
theorem wp_region_inv {P : Program} {id : Nat} {ops : Array Oper} {Q : Exit → Act → World → Prop} {d : List Deferred} {w0 : World} (hm : P.follows .mixedOrders = true)
  (slots : (Nat → Value) → List Value) (S : World → Prop) (φ : Nat → Value → World → Prop) (y0 : Nat → Value)
  (hac : (List.range ops.size).all (fun i => (depsOf ops i).all (· < i)) = true)
  (hmono : ∀ i v w w', φ i v w → Below w.heap.size w w' → φ i v w')
  (hS : S w0.drew)
  (rs : List Nat) (hrs : List.range ops.size = rs)
  (hop : ∀ i ∈ rs, ∀ (y : Nat → Value) (w : World) (K : Act → World → Prop), S w → (∀ j, (depsOf ops i).contains j = true → φ j (y j) w) →
   (∀ v w', S w' → φ i v w' → Below w.heap.size w w' → K ⟨(slots (upd y i v)).toArray, d⟩ w') → wpOp P ops Q i K ⟨(slots y).toArray, d⟩ w)
  (hend : ∀ (y : Nat → Value) (w : World), S w → (∀ i, i < ops.size → φ i (y i) w) → Q .normal ⟨(slots y).toArray, d⟩ w) :
  (Code.region id ops true).wp P Q ⟨(slots y0).toArray, d⟩ w0 := by
 have hdep : ∀ (i : Nat) (o : Oper), ops[i]? = some o → ∀ e ∈ o.after, Region.binds .any e = true → e.on ∈ depsOf ops i := by
  intro i o ho e he hb
  unfold depsOf
  rw [ho]
  simp only [Option.map_some, Option.getD_some, List.mem_map, List.mem_filter]
  exact ⟨e, ⟨by simpa using he, hb⟩, rfl⟩
 refine wp_region_any hm ?_
 refine wpAny_inv (fun b a w => ∃ y, a = ⟨(slots y).toArray, d⟩ ∧ S w ∧ ∀ i, b i = true → φ i (y i) w) ?_ ?_ ?_ _ _ _ _ (by simp) ⟨y0, rfl, hS, ?_⟩ (by simp)
 ·
  intro i o ho e he hb
  have hi : i < ops.size := (Array.getElem?_eq_some_iff.1 ho).1
  have h1 := List.all_eq_true.1 hac i (List.mem_range.2 hi)
  have h2 := List.all_eq_true.1 h1 e.on (hdep i o ho e he hb)
  simpa using h2
 ·
  rintro b a w i ⟨y, rfl, hSw, hφ⟩ hi hbi hd
  refine hop i (by rw [← hrs]; exact List.mem_range.2 hi) y w _ hSw (fun j hj => hφ j ?_) (fun v w' hS' hv hb' => ⟨upd y i v, rfl, hS', fun j hj => ?_⟩)
  ·
   have ho : ops[i]? = some ops[i] := by simp [hi]
   unfold depsOf at hj
   rw [ho] at hj
   simp only [Option.map_some, Option.getD_some, List.contains_iff_mem, List.mem_map, List.mem_filter] at hj
   obtain ⟨e, ⟨he, hb⟩, rfl⟩ := hj
   exact hd _ ho e (by simpa using he) hb
  ·
   by_cases hji : j = i
   ·
    subst hji
    have : upd y j v j = v := by simp [upd]
    rw [this]; exact hv
   ·
    have : upd y i v j = y j := by simp [upd, hji]
    rw [this]
    exact hmono j _ w w' (hφ j (by simpa [hji] using hj)) hb'
 ·
  rintro b a w ⟨y, rfl, hSw, hφ⟩ hall
  exact hend y w hSw (fun i hi => hφ i (hall i hi))
 ·
  intro i hi
  by_cases h : i < ops.size
  ·
   simp [h] at hi
  ·
   simp [h] at hi
end Go.Proofs.Ytpkdlljefkbmpaa

/-! Numbers as text: strconv's Itoa and Atoi, strings.Join and IndexByte, by their contracts; the variables of the library that they read. -/
namespace Go.Proofs.Ytpkdlljefkbmpaa
open Go.RowKit
def Laid (w : World) : Prop := (∃ tp p, w.var? Try.prog "strconv.ErrSyntax" = some #[.iface tp p]) ∧ (∃ tp p, w.var? Try.prog "strconv.ErrRange" = some #[.iface tp p]) ∧ Lib.TabIs Try.prog w "internal/strconv.uint64pow10" .u64 Lib.pow10Tab
def strU (l : List UInt8) : ByteArray := ⟨l.toArray⟩
def atoiE (l : List UInt8) : Option Int := match Lib.atoiAll l with
 | .ok v => some v
 | _ => none
end Go.Proofs.Ytpkdlljefkbmpaa

/-! What is held through a region that makes memory: cells stay. -/
namespace Go.Proofs.Ytpkdlljefkbmpaa
open Go.RowKit
theorem kept3 {V w' w'' : World} {b0 o0 b1 o1 b2 o2 : Nat} {v0 v1 v2 : Value} (hb : Below w'.heap.size w' w'') (H : Below V.heap.size V w' ∧ w'.cell? ⟨b0, o0, none⟩ = some v0 ∧ w'.cell? ⟨b1, o1, none⟩ = some v1 ∧ w'.cell? ⟨b2, o2, none⟩ = some v2) : Below V.heap.size V w'' ∧ w''.cell? ⟨b0, o0, none⟩ = some v0 ∧ w''.cell? ⟨b1, o1, none⟩ = some v1 ∧ w''.cell? ⟨b2, o2, none⟩ = some v2 := by
 obtain ⟨h0, a0, a1, a2⟩ := H
 have key : ∀ b i v, w'.cell? ⟨b, i, none⟩ = some v → w''.cell? ⟨b, i, none⟩ = some v := fun b i v h => (hb.cell (p := ⟨b, i, none⟩) (World.block_lt_of_cell? w' ⟨b, i, none⟩ h)).trans h
 exact ⟨h0.trans (hb.mono h0.size), key _ _ _ a0, key _ _ _ a1, key _ _ _ a2⟩
theorem kept4 {V w' w'' : World} {b0 o0 b1 o1 b2 o2 b3 o3 : Nat} {v0 v1 v2 v3 : Value} (hb : Below w'.heap.size w' w'') (H : Below V.heap.size V w' ∧ w'.cell? ⟨b0, o0, none⟩ = some v0 ∧ w'.cell? ⟨b1, o1, none⟩ = some v1 ∧ w'.cell? ⟨b2, o2, none⟩ = some v2 ∧ w'.cell? ⟨b3, o3, none⟩ = some v3) : Below V.heap.size V w'' ∧ w''.cell? ⟨b0, o0, none⟩ = some v0 ∧ w''.cell? ⟨b1, o1, none⟩ = some v1 ∧ w''.cell? ⟨b2, o2, none⟩ = some v2 ∧ w''.cell? ⟨b3, o3, none⟩ = some v3 := by
 obtain ⟨h0, a0, a1, a2, a3⟩ := H
 have key : ∀ b i v, w'.cell? ⟨b, i, none⟩ = some v → w''.cell? ⟨b, i, none⟩ = some v := fun b i v h => (hb.cell (p := ⟨b, i, none⟩) (World.block_lt_of_cell? w' ⟨b, i, none⟩ h)).trans h
 exact ⟨h0.trans (hb.mono h0.size), key _ _ _ a0, key _ _ _ a1, key _ _ _ a2, key _ _ _ a3⟩
end Go.Proofs.Ytpkdlljefkbmpaa

/-! Lists of numbers that lead through a graph, and their costs, purely: least costs, the least list of the least cost. -/
namespace Go.Proofs.Ytpkdlljefkbmpaa
section
variable {ν : Type} {E : ν → Int → Option ν} {c : Int → Nat} {F : ν → Bool}
def goE (E : ν → Int → Option ν) : ν → List Int → Option ν
 | v, [] => some v
 | v, k :: r => match E v k with
  | none => none
  | some u => goE E u r
def cstE (c : Int → Nat) : List Int → Nat
 | [] => 0
 | k :: r => c k + cstE c r
def GdE (E : ν → Int → Option ν) (F : ν → Bool) (v : ν) (ks : List Int) : Prop := ∃ u, goE E v ks = some u ∧ F u = true
theorem goE_cons {v : ν} {k : Int} {r : List Int} {u : ν} : goE E v (k :: r) = some u ↔ ∃ x, E v k = some x ∧ goE E x r = some u := by
 show (match E v k with | none => none | some u => goE E u r) = some u ↔ _
 cases h : E v k with
 | none => simp
 | some x => simp
theorem goE_app : ∀ (ks ls : List Int) (v : ν), goE E v (ks ++ ls) = (goE E v ks).bind fun u => goE E u ls := by
 intro ks
 induction ks with
 | nil => intro ls v; rfl
 | cons k r ih =>
  intro ls v
  show (match E v k with | none => none | some u => goE E u (r ++ ls)) = (match E v k with | none => none | some u => goE E u r).bind fun u => goE E u ls
  cases E v k with
  | none => rfl
  | some x => exact ih ls x
theorem cstE_app (c : Int → Nat) : ∀ ks ls : List Int, cstE c (ks ++ ls) = cstE c ks + cstE c ls := by
 intro ks
 induction ks with
 | nil => intro ls; simp [cstE]
 | cons k r ih => intro ls; simp only [List.cons_append, cstE, ih]; omega
theorem gdE_nil {v : ν} : GdE E F v [] ↔ F v = true := by
 unfold GdE goE
 constructor
 ·
  rintro ⟨u, h, h2⟩; cases h; exact h2
 ·
  intro h; exact ⟨v, rfl, h⟩
theorem gdE_cons {v : ν} {k : Int} {r : List Int} : GdE E F v (k :: r) ↔ ∃ u, E v k = some u ∧ GdE E F u r := by
 unfold GdE
 constructor
 ·
  rintro ⟨u, h, h2⟩
  obtain ⟨x, h3, h4⟩ := goE_cons.1 h
  exact ⟨x, h3, u, h4, h2⟩
 ·
  rintro ⟨x, h3, u, h4, h2⟩
  exact ⟨u, goE_cons.2 ⟨x, h3, h4⟩, h2⟩
theorem gdE_app {v u : ν} {ks ls : List Int} (h : goE E v ks = some u) : GdE E F v (ks ++ ls) ↔ GdE E F u ls := by
 unfold GdE
 rw [goE_app, h]
 exact Iff.rfl
def MinE (E : ν → Int → Option ν) (c : Int → Nat) (F : ν → Bool) (v : ν) (ks : List Int) : Prop := GdE E F v ks ∧ ∀ ls, GdE E F v ls → cstE c ks ≤ cstE c ls
theorem minE_ex {v : ν} (h : ∃ ks, GdE E F v ks) : ∃ ks, MinE E c F v ks := by
 obtain ⟨ks, h⟩ := h
 generalize hn : cstE c ks = n
 induction n using Nat.strongRecOn generalizing ks with
 | ind n ih =>
  by_cases g : ∃ ls, GdE E F v ls ∧ cstE c ls < n
  ·
   obtain ⟨ls, h1, h2⟩ := g
   exact ih _ h2 ls h1 rfl
  ·
   refine ⟨ks, h, fun ls hl => ?_⟩
   rcases Nat.lt_or_ge (cstE c ls) (cstE c ks) with g2 | g2
   ·
    exact absurd ⟨ls, hl, by omega⟩ g
   ·
    exact g2
def plcE (E : ν → Int → Option ν) : ν → List Int → List ν
 | _, [] => []
 | v, k :: r => v :: match E v k with
  | none => []
  | some u => plcE E u r
theorem plcE_len : ∀ (ks : List Int) (v u : ν), goE E v ks = some u → (plcE E v ks).length = ks.length := by
 intro ks
 induction ks with
 | nil => intro v u _; rfl
 | cons k r ih =>
  intro v u h
  obtain ⟨x, h1, h2⟩ := goE_cons.1 h
  unfold plcE
  rw [h1]
  simp only [List.length_cons, ih x u h2]
theorem plcE_mem : ∀ (ks : List Int) (v u x : ν), goE E v ks = some u → x ∈ plcE E v ks → ∃ a b, ks = a ++ b ∧ goE E v a = some x := by
 intro ks
 induction ks with
 | nil => intro v u x _ h; cases h
 | cons k r ih =>
  intro v u x h hx
  obtain ⟨y, h1, h2⟩ := goE_cons.1 h
  unfold plcE at hx
  rw [h1] at hx
  rcases List.mem_cons.1 hx with e | g
  ·
   exact ⟨[], k :: r, rfl, by rw [e]; rfl⟩
  ·
   obtain ⟨a, b, e, h3⟩ := ih y u x h2 g
   exact ⟨k :: a, b, by rw [e]; rfl, goE_cons.2 ⟨y, h1, h3⟩⟩
theorem minE_tail {v u : ν} {k : Int} {r : List Int} (h : MinE E c F v (k :: r)) (hE : E v k = some u) : MinE E c F u r := by
 obtain ⟨h1, h2⟩ := h
 obtain ⟨x, h3, h4⟩ := gdE_cons.1 h1
 rw [hE] at h3
 cases h3
 refine ⟨h4, fun ls hl => ?_⟩
 have := h2 (k :: ls) (gdE_cons.2 ⟨u, hE, hl⟩)
 simp only [cstE] at this
 omega
theorem minE_nodup (hc : ∀ v k u, E v k = some u → 1 ≤ c k) : ∀ (ks : List Int) (v : ν), MinE E c F v ks → (plcE E v ks).Nodup := by
 intro ks
 induction ks with
 | nil => intro v _; exact List.nodup_nil
 | cons k r ih =>
  intro v h
  obtain ⟨u, h1, h2⟩ := gdE_cons.1 h.1
  have h3 := minE_tail h h1
  unfold plcE
  rw [h1]
  refine List.nodup_cons.2 ⟨fun hm => ?_, ih u h3⟩
  obtain ⟨z, h4, h5⟩ := h2
  obtain ⟨a, b, e, h6⟩ := plcE_mem r u z v h4 hm
  have h7 : GdE E F v b := by
   rw [← gdE_app h6, ← e]
   exact ⟨z, h4, h5⟩
  have h8 := h.2 b h7
  have h9 := hc v k u h1
  rw [e] at h8
  simp only [cstE, cstE_app] at h8
  omega
theorem cstE_len {C : Nat} (hc : ∀ v k u, E v k = some u → c k ≤ C) : ∀ (ks : List Int) (v u : ν), goE E v ks = some u → cstE c ks ≤ C * ks.length := by
 intro ks
 induction ks with
 | nil => intro v u _; simp [cstE]
 | cons k r ih =>
  intro v u h
  obtain ⟨x, h1, h2⟩ := goE_cons.1 h
  have := ih x u h2
  have := hc v k x h1
  simp only [cstE, List.length_cons, Nat.mul_add]
  omega
theorem plcE_in {P : ν → Prop} (hP : ∀ v k u, P v → E v k = some u → P u) : ∀ (ks : List Int) (v : ν), P v → ∀ x ∈ plcE E v ks, P x := by
 intro ks
 induction ks with
 | nil => intro v _ x hx; cases hx
 | cons k r ih =>
  intro v hv x hx
  unfold plcE at hx
  rcases List.mem_cons.1 hx with e | g
  ·
   rw [e]; exact hv
  ·
   cases h : E v k with
   | none => rw [h] at g; cases g
   | some u => rw [h] at g; exact ih u (hP v k u hv h) x g
theorem len_le_of_nodup [DecidableEq ν] : ∀ (L M : List ν), L.Nodup → (∀ x ∈ L, x ∈ M) → L.length ≤ M.length := by
 intro L
 induction L with
 | nil => intro M _ _; exact Nat.zero_le _
 | cons a L ih =>
  intro M h1 h2
  obtain ⟨h3, h4⟩ := List.nodup_cons.1 h1
  have ha := h2 a (List.mem_cons.2 (.inl rfl))
  have h5 := ih (M.erase a) h4 fun x hx => (List.mem_erase_of_ne (fun e => h3 (by rw [← e]; exact hx))).2 (h2 x (List.mem_cons.2 (.inr hx)))
  rw [List.length_erase_of_mem ha] at h5
  have := List.length_pos_iff.2 (List.ne_nil_of_mem ha)
  simp only [List.length_cons]
  omega
theorem minE_bound [DecidableEq ν] {C : Nat} {L : List ν} (hc : ∀ v k u, E v k = some u → 1 ≤ c k ∧ c k ≤ C) (hL : ∀ v k u, v ∈ L → E v k = some u → u ∈ L) {v : ν} (hv : v ∈ L) {ks : List Int} (h : MinE E c F v ks) : cstE c ks ≤ C * L.length := by
 obtain ⟨u, h1, _⟩ := h.1
 have h2 := cstE_len (fun v k u e => (hc v k u e).2) ks v u h1
 have h3 := len_le_of_nodup _ L (minE_nodup (fun v k u e => (hc v k u e).1) ks v h) (plcE_in (P := fun x => x ∈ L) hL ks v hv)
 rw [plcE_len ks v u h1] at h3
 exact Nat.le_trans h2 (Nat.mul_le_mul_left C h3)
theorem low_of_closed {P : ν → Prop} {h : ν → Nat} (hP : ∀ v k u, P v → E v k = some u → P u) (hF : ∀ v, P v → F v = true → h v = 0) (hE : ∀ v k u, P v → E v k = some u → h v ≤ c k + h u) : ∀ (ks : List Int) (v : ν), P v → GdE E F v ks → h v ≤ cstE c ks := by
 intro ks
 induction ks with
 | nil => intro v hv h; rw [hF v hv (gdE_nil.1 h)]; exact Nat.zero_le _
 | cons k r ih =>
  intro v hv h
  obtain ⟨u, h1, h2⟩ := gdE_cons.1 h
  have h3 := ih u (hP v k u hv h1) h2
  have h4 := hE v k u hv h1
  simp only [cstE]
  omega
def lessL : List Int → List Int → Bool
 | [], [] => false
 | [], _ :: _ => true
 | _ :: _, [] => false
 | a :: x, b :: y => if a = b then lessL x y else decide (a < b)
theorem lessL_nil (a : List Int) : lessL a [] = false := by cases a <;> rfl
theorem lessL_eq : ∀ a b : List Int, lessL a b = false → lessL b a = false → a = b := by
 intro a
 induction a with
 | nil =>
  intro b h _
  cases b with
  | nil => rfl
  | cons y s => cases h
 | cons x r ih =>
  intro b h1 h2
  cases b with
  | nil => cases h2
  | cons y s =>
   unfold lessL at h1 h2
   by_cases e : x = y
   ·
    rw [if_pos e] at h1
    rw [if_pos e.symm] at h2
    rw [e, ih s h1 h2]
   ·
    rw [if_neg e, decide_eq_false_iff_not] at h1
    rw [if_neg (fun h => e h.symm), decide_eq_false_iff_not] at h2
    exact absurd (Int.le_antisymm (Int.not_lt.1 h2) (Int.not_lt.1 h1)) e
def BestE (E : ν → Int → Option ν) (c : Int → Nat) (F : ν → Bool) (v : ν) (ks : List Int) : Prop := GdE E F v ks ∧ ∀ ls, GdE E F v ls → cstE c ks ≤ cstE c ls ∧ (cstE c ks = cstE c ls → lessL ls ks = false)
theorem BestE.min {v : ν} {ks : List Int} (h : BestE E c F v ks) : MinE E c F v ks := ⟨h.1, fun ls hl => (h.2 ls hl).1⟩
theorem bestE_one {v : ν} {a b : List Int} (h1 : BestE E c F v a) (h2 : BestE E c F v b) : a = b := by
 have e : cstE c a = cstE c b := Nat.le_antisymm (h1.2 b h2.1).1 (h2.2 a h1.1).1
 exact lessL_eq a b ((h2.2 a h1.1).2 e.symm) ((h1.2 b h2.1).2 e)
theorem cstE_pos (hc : ∀ v k u, E v k = some u → 1 ≤ c k) {ks : List Int} {v : ν} (h : GdE E F v ks) (h0 : cstE c ks = 0) : ks = [] := by
 cases ks with
 | nil => rfl
 | cons k r =>
  obtain ⟨u, h1, _⟩ := gdE_cons.1 h
  have := hc v k u h1
  simp only [cstE] at h0
  omega
theorem bestE_nil (hc : ∀ v k u, E v k = some u → 1 ≤ c k) {v : ν} {ks : List Int} (h : GdE E F v ks) (h0 : cstE c ks = 0) : BestE E c F v [] := by
 have e := cstE_pos hc h h0
 subst e
 exact ⟨h, fun ls _ => ⟨Nat.zero_le _, fun _ => lessL_nil ls⟩⟩
theorem bestE_cons {v u : ν} {k : Int} {r : List Int} {h : ν → Nat} (hE : E v k = some u) (hk : c k + h u = h v) (hpos : 0 < h v) (hlow : ∀ x ks, E v x ≠ none → GdE E F v (x :: ks) → ∀ y, E v x = some y → h y ≤ cstE c ks ∧ h v ≤ c x + h y) (hfirst : ∀ x y, E v x = some y → c x + h y = h v → k ≤ x) (hF : F v = true → h v = 0) (hu : cstE c r = h u) (hb : BestE E c F u r) : BestE E c F v (k :: r) := by
 refine ⟨gdE_cons.2 ⟨u, hE, hb.1⟩, fun ls hl => ?_⟩
 cases ls with
 | nil => have := hF (gdE_nil.1 hl); omega
 | cons x s =>
  obtain ⟨y, h1, h2⟩ := gdE_cons.1 hl
  obtain ⟨h3, h4⟩ := hlow x s (by rw [h1]; exact Option.some_ne_none y) hl y h1
  simp only [cstE]
  refine ⟨by omega, fun e => ?_⟩
  have h5 := hfirst x y h1 (by omega)
  unfold lessL
  by_cases e2 : x = k
  ·
   rw [if_pos e2]
   subst e2
   rw [hE] at h1
   cases h1
   exact (hb.2 s h2).2 (by omega)
  ·
   rw [if_neg e2, decide_eq_false_iff_not]
   omega
end
end Go.Proofs.Ytpkdlljefkbmpaa
