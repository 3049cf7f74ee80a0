/- FromAscii, Ascii, Line, Show, Same. -/
import Derived.Test.YtmbaebbhecfpdaaB
import Derived.Deep.WholeRow
namespace Go.Proofs.Ytmbaebbhecfpdaa
open Go.RowKit

theorem setRow_get {w : World} {g : Nat} {old cs : Array Value} {t : TypeId} (i : Nat) (hg : w.heap[g]? = some (.cells old t (0, 0))) : (w.setRow g cs).cell? ⟨g, i, none⟩ = cs[i]? :=
  cell_of_row _ _ _ _ _ _ (setRow_heap w g old cs t _ hg)

def faC (n : Nat) : Int := if cellOf n < 64 then cellOf n else 0
def faE (n : Nat) : Int := if cellOf n < 64 then 0 else 10
theorem ret_two {k1 k2 : IntKind} {a b c d : Int} (h : a = b) (h2 : c = d) : Ending.returned (.tuple #[.int k1 a, .int k2 c]) = .returned (.tuple #[.int k1 b, .int k2 d]) := by rw [h, h2]
set_option maxRecDepth 10000 in
attribute [local irreducible] fillRow tabRow in
theorem fromAscii_any (b : Int) (h0 : 0 ≤ b) (hb : b < 256) (w : World) :
    Calls Try.prog 9 #[.int .u8 b] w fun e w' =>
      e = .returned (.tuple #[.int .u8 (faC b.toNat), .int .i64 (faE b.toNat)]) ∧ Below w.heap.size w w' := by
  obtain ⟨n, rfl⟩ := Int.eq_ofNat_of_zero_le h0
  rw [Int.toNat_natCast]
  have hn : n < 256 := by omega
  have hz := zero52
  have hget := tabRow_get 64 n hn
  rw [tabAt_full] at hget
  have hle := cellOf_le n
  go_enter Try.func9, Try.ntmps9
  go_wp2_with fail
  refine (table_any _).mono ?_
  rintro e w1 ⟨rfl, hb1⟩
  have hsz : (fillRow 0).size = (tabRow 64).size := by rw [fillRow_size, tabRow_size]
  have HSZ := Lib.hid hsz
  have hi : Option.map (fun x => x.size) (Try.prog.info? 52) = some (tabRow 64).size := by rw [tabRow_size]; kernel_rfl
  have HI := Lib.hid hi
  clear hsz hi
  go_wp2_with (first | (refine wpList_store_row rfl 52 (.tmp 4) (.tmp 6) rfl w1.heap.size (tabRow 64) rfl rfl 52 (fillRow 0) (heap_alloc_new _ _) HI.out HSZ.out (tabRow_one _) ?_; rw [World.setRow_alloc_new]) | (go_at_call 17; refine (valid_any _ _).mono ?_; rintro e w' ⟨rfl, rfl⟩))
  · have hc : ¬ cellOf n < 64 := by rename_i h; simp at h; omega
    go_ret2
    exact ⟨ret_two (by rw [faC, if_neg hc]) (by rw [faE, if_neg hc]), hb1.alloc hb1.size _⟩
  · have hc : cellOf n < 64 := by rename_i h; simp at h; omega
    go_ret2
    exact ⟨ret_two (by rw [faC, if_pos hc]) (by rw [faE, if_pos hc]), hb1.alloc hb1.size _⟩

def charI (c : Int) : Int := chars.getD c.toNat 0
theorem chB_at (n i : Nat) (hi : i = n) (h : n < 64) (hs : i < chB.size) : (chB[i]'hs).toNat = chars.getD n 0 := by
  subst hi; exact (chB_get i hs).1
theorem ascii_any (c : Int) (h0 : 0 ≤ c) (h1 : c < 64) (w : World) :
    Calls Try.prog 21 #[.int .u8 c] w fun e w' => e = .returned (.int .u8 (charI c)) ∧ w = w' := by
  obtain ⟨n, rfl⟩ := Int.eq_ofNat_of_zero_le h0
  go_enter Try.func21, Try.ntmps21
  have h63 : n < 64 := by omega
  have hm : n % 64 = n := Nat.mod_eq_of_lt h63
  go_wp2
  go_ret
  exact ⟨ret_int (congrArg Int.ofNat (chB_at n n rfl h63 (by rw [chB_size]; omega))), rfl⟩

/-- A slice that reads as a list of cells. -/
def Seq (w : World) (B : Nat) (A : Option Addr) (xs : List Int) : Prop :=
  0 < xs.length → ∃ b o : Nat, A = some ⟨b, o, none⟩ ∧ b < B ∧ ∀ j (h : j < xs.length), w.cell? ⟨b, o + j, none⟩ = some (.int .u8 xs[j])
theorem Seq.nil {w : World} {B : Nat} {A : Option Addr} : Seq w B A [] := fun h => absurd h (by simp)
theorem Seq.keep {w w' : World} {B : Nat} {A : Option Addr} {xs : List Int} (h : Seq w B A xs) (hb : Below B w w') : Seq w' B A xs := fun hl => by
  obtain ⟨b, o, e, hB, hc⟩ := h hl
  exact ⟨b, o, e, hB, fun j hj => (hb.cell (p := ⟨b, o + j, none⟩) hB).trans (hc j hj)⟩
theorem Seq.more {w : World} {B B' : Nat} {A : Option Addr} {xs : List Int} (h : Seq w B A xs) (hB : B ≤ B') : Seq w B' A xs := fun hl => by
  obtain ⟨b, o, e, hb, hc⟩ := h hl
  exact ⟨b, o, e, by omega, hc⟩
theorem below_dN {B n : Nat} {a w : World} (h : Below B a w) : Below B a (w.drewN n) := ⟨h.os, h.tape, h.output, h.size, h.block⟩
theorem take_same {xs ys : List Int} {k : Nat} (hx : k < xs.length) (hy : k < ys.length) : (xs.take (k + 1) = ys.take (k + 1)) ↔ (xs.take k = ys.take k ∧ xs[k] = ys[k]) := by
  rw [List.take_succ_eq_append_getElem hx, List.take_succ_eq_append_getElem hy]
  constructor
  · intro h
    have := List.append_inj' h rfl
    exact ⟨this.1, by simpa using this.2⟩
  · rintro ⟨h1, h2⟩; rw [h1, h2]
theorem ne_of_len {xs ys : List Int} (h : ¬ xs.length = ys.length) : (false : Bool) = decide (xs = ys) := by
  simp; intro e; exact h (by rw [e])

set_option maxHeartbeats 400000 in
theorem same_any (A B : Option Addr) (n m k l : Nat) (xs ys : List Int) (w : World) (hn : xs.length = n) (hm : ys.length = m) (hx : Seq w w.heap.size A xs) (hy : Seq w w.heap.size B ys) (hmax : n < 2 ^ 47) :
    Calls Try.prog 15 #[.slice A n k, .slice B m l] w fun e w' => e = .returned (.bool (decide (xs = ys))) ∧ Below w.heap.size w w' := by
  by_cases hl : n = m
  · subst hl
    have HM := Lib.hid hm
    have HN := Lib.hid hn
    clear hm hn
    go_enter Try.func15, Try.ntmps15
    go_wp2
    go_loopw [5] (fun i wr => ∃ j : Nat, j ≤ n ∧ i = .int .i64 j ∧ xs.take j = ys.take j ∧ Below w.heap.size w wr) (fun i _ => n - (intOf i).toNat)
    case atStart => exact ⟨0, by omega, rfl, rfl, Below.refl _ _⟩
    case round =>
      obtain ⟨j, hj, rfl, ht, hb⟩ := hrel
      by_cases hlt : j < n
      · obtain ⟨b1, o1, e1, hB1, c1⟩ := hx.keep hb (by have := HN.out; omega)
        obtain ⟨b2, o2, e2, hB2, c2⟩ := hy.keep hb (by have := HM.out; omega)
        subst e1 e2
        have d1 := c1 j (by have := HN.out; omega)
        have d2 := c2 j (by have := HM.out; omega)
        have HT := Lib.hid (take_same (xs := xs) (ys := ys) (k := j) (by have := HN.out; omega) (by have := HM.out; omega))
        clear c1 c2 hx hy
        generalize xs[j]'(by have := HN.out; omega) = x at *
        generalize ys[j]'(by have := HM.out; omega) = y at *
        have hj0 : (0 : Int) ≤ (j : Int) := by omega
        have hjn : (j : Int) < (n : Int) := by omega
        go_wp2
        go_quiet (fail)
        go_wp2
        · rename_i hne
          go_ret
          have hd : ¬ xs = ys := fun e => by have := HT.out; rw [e] at this; simp at hne; exact hne (this.1 rfl).2
          exact ⟨ret_bool (by simp [hd]), below_dN hb⟩
        · rename_i heq
          refine ⟨⟨j + 1, by omega, by go_num, ?_, below_dN hb⟩, by simp [intOf]; omega⟩
          exact HT.out.2 ⟨ht, by simpa using heq⟩
      · have : j = n := by omega
        subst this
        go_wp2
        go_ret
        have e1 : xs = ys := by rw [← List.take_of_length_le (i := j) (l := xs) (by have := HN.out; omega), ht, List.take_of_length_le (by have := HM.out; omega)]
        exact ⟨ret_bool (by simp [e1]), hb⟩
  · have hne : ¬ xs.length = ys.length := by omega
    clear hn hm
    go_enter Try.func15, Try.ntmps15
    go_wp2
    go_ret
    exact ⟨ret_bool (ne_of_len hne), Below.refl _ _⟩
end Go.Proofs.Ytmbaebbhecfpdaa
