/- P1.2: for all strings and bytes: cells, their dots and their characters determine each other; a text of at most 8 bytes is the dots, and a byte the character, of at most one cell. No condition. -/
import Derived.Test.YtmbaebbhecfpdaaF
import Derived.Test.YtmbaebbhecfpdaaFrame
namespace Go.Proofs.Ytmbaebbhecfpdaa
open Go.RowKit

/-- All increasing lists of the last k digits. -/
def subs : Nat → List (List Nat)
  | 0 => [[]]
  | k + 1 => subs k ++ (subs k).map ((54 - k) :: ·)
theorem subs_nil (k : Nat) : [] ∈ subs k := by
  induction k with
  | zero => simp [subs]
  | succ k ih => simp [subs, ih]
theorem subs_mono {l : List Nat} {k : Nat} (h : l ∈ subs k) (j : Nat) : l ∈ subs (k + j) := by
  induction j with
  | zero => exact h
  | succ j ih => rw [← Nat.add_assoc]; simp [subs, ih]
theorem parseGo_subs : ∀ (l : List Nat) (last c r : Nat), last ≤ 54 → parseGo l last c = some r → l ∈ subs (54 - last) := by
  intro l
  induction l with
  | nil => intro last c r _ _; exact subs_nil _
  | cons b t ih =>
    intro last c r hl h
    unfold parseGo at h
    by_cases hc : b ≤ last ∨ 54 < b
    · rw [if_pos hc] at h; cases h
    · rw [if_neg hc] at h
      have h1 := ih b _ r (by omega) h
      have h2 : (b :: t) ∈ subs (54 - b + 1) := by
        simp only [subs, List.mem_append, List.mem_map]
        exact Or.inr ⟨t, h1, by rw [show 54 - (54 - b) = b from by omega]⟩
      have := subs_mono h2 (54 - last - (54 - b + 1))
      rwa [show 54 - b + 1 + (54 - last - (54 - b + 1)) = 54 - last from by omega] at this
def goodText (l : List Nat) : Bool := match parse l with
  | none => true
  | some r => decide (r < 64) && (dotsText r == l.map fun b : Nat => (b : Int))
theorem parse_sound (l : List Nat) (r : Nat) (h : parse l = some r) : r < 64 ∧ dotsText r = l.map fun b : Nat => (b : Int) := by
  have key : goodText l = true := by
    by_cases h48 : l = [48]
    · subst h48; decide +kernel
    · by_cases h0 : l = []
      · subst h0; decide +kernel
      · have hp := h
        rw [parse, if_neg h48, if_neg h0] at hp
        have hm : l ∈ subs 6 := parseGo_subs l 48 0 r (by omega) hp
        have hall : (subs 6).all goodText = true := by decide +kernel
        exact List.all_eq_true.1 hall l hm
  unfold goodText at key
  rw [h] at key
  simp only [Bool.and_eq_true, decide_eq_true_eq, beq_iff_eq] at key
  exact key
theorem strOf_bytes (s : ByteArray) : strOf ((bytes s).map fun b : Nat => (b : Int)) = s := by
  unfold strOf bytes
  simp only [List.map_map]
  have : ((fun n : Int => UInt8.ofNat n.toNat) ∘ ((fun b : Nat => (b : Int)) ∘ UInt8.toNat)) = id := by
    funext u; simp
  rw [this]; simp
theorem text_back (c : Nat) (hc : c < 64) : paC (bytes (strOf (dotsText c))) = c ∧ paE (bytes (strOf (dotsText c))) = 0 := by
  have h := allB_out (n := 64) (p := fun c => decide (paC (bytes (strOf (dotsText c))) = c) && decide (paE (bytes (strOf (dotsText c))) = 0)) (by decide +kernel) c hc
  simpa using h
theorem text_size (c : Nat) (hc : c < 64) : (strOf (dotsText c)).size < 2 ^ 47 := by
  have h := allB_out (n := 64) (p := fun c => decide ((strOf (dotsText c)).size < 2 ^ 47)) (by decide +kernel) c hc
  simpa using h
theorem char_of (n : Nat) (h : cellOf n < 64) : charI (cellOf n : Nat) = n := by
  unfold charI; rw [Int.toNat_natCast, char_cellOf n h]
theorem char_back (c : Nat) (hc : c < 64) : 0 ≤ charI c ∧ charI c < 256 ∧ faC (charI c).toNat = c ∧ faE (charI c).toNat = 0 := by
  have h := allB_out (n := 64) (p := fun c => decide (0 ≤ charI c) && decide (charI c < 256) && decide (faC (charI c).toNat = c) && decide (faE (charI c).toNat = 0)) (by decide +kernel) c hc
  simp only [Bool.and_eq_true, decide_eq_true_eq] at h
  exact ⟨h.1.1.1, h.1.1.2, h.1.2, h.2⟩
end Go.Proofs.Ytmbaebbhecfpdaa
namespace Go.Proofs.Ytmbaebbhecfpdaa.cellTexts
open Go.ChangeShapes Go.WideShapes Go.ChangeAt Go.RowKit
set_option linter.unusedVariables false

set_option maxRecDepth 100000 in
set_option maxHeartbeats 1000000 in
theorem walk (a0 : ByteArray) (a1 : Int) (w0 : a0.size ≤ maxLen) (w1 : (Lit.int .u8 a1).wf = true) (w : World) :
    Calls Try.prog 4 #[.string a0, .int .u8 a1] w fun e w' => e = .returned (.bool true) ∧ Below w.heap.size w w' := by
  have hy := bounds_u8 w1
  unfold maxLen at w0
  clear w1
  go_enter Try.func4, Try.ntmps4
  go_wp2_with fail
  refine (sanity_any _).mono ?_
  rintro e wa ⟨rfl, hba⟩
  go_wp2_with fail
  have HBA := Lib.hid hba
  clear hba
  go_loopw [6] (fun i wr => ∃ k : Nat, k ≤ 64 ∧ i = .int .i64 k ∧ Below w.heap.size w wr) (fun i _ => 64 - (intOf i).toNat)
  case atStart => exact ⟨0, by omega, rfl, HBA.out⟩
  case round =>
    obtain ⟨k, hk, rfl, hb⟩ := hrel
    clear HBA
    by_cases hlt : k < 64
    · go_wp2_with fail
      refine (dots_any _ hlt _).mono ?_
      rintro e w1 ⟨rfl, hb1⟩
      have hb1 := below_next hb hb1
      clear hb
      go_wp2_with fail
      refine (parse_lit _ k 0 (text_back k hlt).1 (text_back k hlt).2 (text_size k hlt) _).mono ?_
      rintro e w2 ⟨rfl, hb2⟩
      have hb2 := below_next hb1 hb2
      clear hb1
      go_wp2_with fail
      refine (ascii_any _ (by omega) (by omega) _).mono ?_
      rintro e _ ⟨rfl, rfl⟩
      obtain ⟨q1, q2, q3, q4⟩ := char_back k hlt
      go_wp2_with fail
      refine (fromAscii_lit _ k 0 q1 q2 q3 q4 _).mono ?_
      rintro e w3 ⟨rfl, hb3⟩
      have hb3 := below_next hb2 hb3
      clear hb2 q3 q4
      go_wp2
      go_roundw
      case rel => exact ⟨k + 1, by omega, by go_num, hb3⟩
      case measure => simp [intOf]; omega
    · have : k = 64 := by omega
      subst this
      obtain ⟨n, rfl⟩ := Int.eq_ofNat_of_zero_le hy.1
      have hn : n < 256 := by omega
      go_wp2_with fail
      · go_ret
        exact ⟨rfl, hb⟩
      have h8 : a0.size ≤ 8 := by omega
      cases hp : parse (bytes a0) with
      | none =>
        refine (parse_lit a0 0 10 (by rw [paC, hp]; rfl) (by rw [paE, hp]; rfl) (by omega) _).mono ?_
        rintro e w1 ⟨rfl, hb1⟩
        have hb1 := below_next hb hb1
        clear hb hp
        go_wp2_with fail
        by_cases hc : cellOf n < 64
        · refine (fromAscii_lit n (cellOf n) 0 (by omega) (by omega) (by rw [Int.toNat_natCast, faC, if_pos hc]) (by rw [Int.toNat_natCast, faE, if_pos hc]) _).mono ?_
          rintro e w2 ⟨rfl, hb2⟩
          have hb2 := below_next hb1 hb2
          have HC := Lib.hid (char_of n hc)
          clear hb1
          go_wp2_with fail
          refine (ascii_lit _ n (by omega) (by omega) HC.out _).mono ?_
          rintro e _ ⟨rfl, rfl⟩
          go_wp2
          go_ret
          exact ⟨rfl, hb2⟩
        · refine (fromAscii_lit n 0 10 (by omega) (by omega) (by rw [Int.toNat_natCast, faC, if_neg hc]) (by rw [Int.toNat_natCast, faE, if_neg hc]) _).mono ?_
          rintro e w2 ⟨rfl, hb2⟩
          have hb2 := below_next hb1 hb2
          clear hb1
          go_wp2
          go_ret
          exact ⟨rfl, hb2⟩
      | some r =>
        obtain ⟨hr, ht⟩ := parse_sound _ r hp
        refine (parse_lit a0 r 0 (by rw [paC, hp]; rfl) (by rw [paE, hp]; rfl) (by omega) _).mono ?_
        rintro e w1 ⟨rfl, hb1⟩
        have hb1 := below_next hb hb1
        have HT : Hid (strOf (dotsText r) = a0) := by unfold Hid; rw [ht, strOf_bytes]
        clear hb hp ht
        go_wp2_with fail
        by_cases hc : cellOf n < 64
        · refine (fromAscii_lit n (cellOf n) 0 (by omega) (by omega) (by rw [Int.toNat_natCast, faC, if_pos hc]) (by rw [Int.toNat_natCast, faE, if_pos hc]) _).mono ?_
          rintro e w2 ⟨rfl, hb2⟩
          have hb2 := below_next hb1 hb2
          have HC := Lib.hid (char_of n hc)
          clear hb1
          go_wp2_with fail
          refine (dots_lit r a0 hr HT.out _).mono ?_
          rintro e w3 ⟨rfl, hb3⟩
          have hb3 := below_next hb2 hb3
          clear hb2
          go_wp2_with fail
          refine (ascii_lit _ n (by omega) (by omega) HC.out _).mono ?_
          rintro e _ ⟨rfl, rfl⟩
          go_wp2
          go_ret
          exact ⟨rfl, hb3⟩
        · refine (fromAscii_lit n 0 10 (by omega) (by omega) (by rw [Int.toNat_natCast, faC, if_neg hc]) (by rw [Int.toNat_natCast, faE, if_neg hc]) _).mono ?_
          rintro e w2 ⟨rfl, hb2⟩
          have hb2 := below_next hb1 hb2
          clear hb1
          go_wp2_with fail
          refine (dots_lit r a0 hr HT.out _).mono ?_
          rintro e w3 ⟨rfl, hb3⟩
          have hb3 := below_next hb2 hb3
          clear hb2
          go_wp2
          go_ret
          exact ⟨rfl, hb3⟩

set_option maxRecDepth 100000 in
theorem lifted (os : Os) (started : os.Started) (H : Type) (enc : TypeId × Value → H) :
    ReturnsInHanded {} Try.checked os 4 .any (Rows.cellTextsSpec.pre6 enc Try.prog Try.f4 Rows.cellTextsRow.domain false) (Rows.cellTextsSpec.post enc Try.prog Try.f4 false true false false) := by
  refine returnsInHanded_of_change (C := Try.checked) own started (by kernel_rfl) Try.func4
    (ChangeSpec.witness6 (enc := enc) (C := Try.checked) false ⟨#[], #[.string ByteArray.empty, .int .u8 0], []⟩ 8 (by kernel_rfl) (by kernel_rfl) (by kernel_rfl) (by kernel_rfl)) ?_
  intro W base args ds gs before hval0 hW hcnd _
  have hval : ∀ (j : Nat) t v, Try.f4.params[j]? = some t → args[j]? = some v → Value.okWide Try.prog W .any base t v := hval0
  have hW' := hW
  obtain ⟨p, q, hA0, hV, rfl, hfz, hnd⟩ := hW
  have hA : DataW.TrodAll enc Try.prog W 0 (fun _ => true) true Try.f4.params.toList args.toList ds p := hA0
  rw [Try.params4] at hA hval
  obtain ⟨v0, vs0, d0, ds0, p0, q0, hargs, rfl, rfl, h0, r0⟩ := trodAll_cons hA
  obtain ⟨v1, vs1, d1, ds1, p1, q1, rfl, rfl, rfl, h1, r1⟩ := trodAll_cons r0
  obtain ⟨rfl, rfl, rfl⟩ := trodAll_nil r1
  obtain rfl : args = #[v0, v1] := by cases args; simp_all
  obtain ⟨rfl, rfl⟩ := trodVars_none hV
  have k0 := h0
  have lt0 : ∀ x ∈ p0, x.block < W.heap.size := by obtain ⟨m, hm⟩ := k0; exact DataW.trod_lt m _ _ _ hm
  have k1 := h1
  have lt1 : ∀ x ∈ p1, x.block < W.heap.size := by obtain ⟨m, hm⟩ := k1; exact DataW.trod_lt m _ _ _ hm
  obtain ⟨a0, rfl, _, _, w0⟩ := Go.ChangeMaps.open_string Try.underlying9 (hval 0 9 v0 rfl rfl) h0
  obtain ⟨a1, rfl, _, _, w1⟩ := open_int Try.underlying5 (hval 1 5 v1 rfl rfl) h1
  clear hA0 hval0
  refine (walk a0 a1 w0 w1 W).mono fun e W' ⟨he, bel⟩ => ?_
  subst he
  exact ⟨_, rfl, _, _, _, [], _, [], hW', trodAll_mk1 (shut_bool Try.underlying4 _), (trodAll_cons_mk (Below.trod laidOut (by kernel_rfl) (of_decide_eq_true (by kernel_rfl)) k0 bel lt0) (trodAll_cons_mk (Below.trod laidOut (by kernel_rfl) (of_decide_eq_true (by kernel_rfl)) k1 bel lt1) trodAll_mk0)), rfl, bel.frame _, fun h => by cases h⟩

theorem over : Rows.cellTextsRow.holds Try.pinned (OpenSpec.ofChange Rows.cellTextsSpec) :=
  OpenClaim.holds_of_wide 4 Try.f4 rfl rfl rfl rfl rfl rfl rfl ⟨rfl, rfl, rfl, rfl, rfl⟩ rfl rfl rfl rfl rfl (by kernel_rfl) Try.func4 (by kernel_rfl)
    (of_decide_eq_true (by kernel_rfl)) (by unfold Func.isWrapper; first | (rw [if_pos (by decide +kernel)]; kernel_rfl) | (rw [if_neg (by decide +kernel)]; exact ⟨rfl, rfl⟩))
    (fun os started H enc _ => lifted os started H enc)

theorem proved : Rows.CellTextsSaid := over
end Go.Proofs.Ytmbaebbhecfpdaa.cellTexts
