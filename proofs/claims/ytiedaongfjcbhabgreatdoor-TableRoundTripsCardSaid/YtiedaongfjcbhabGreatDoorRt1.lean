/- Format and Parse, purely: what Format writes of a valid table is read as that table. -/
import Derived.Test.YtiedaongfjcbhabGreatDoorPar7
import Derived.Test.YtiedaongfjcbhabGreatDoorRefD
import Derived.Test.YtiedaongfjcbhabGreatDoorGood
namespace Go.Proofs.YtiedaongfjcbhabGreatDoor
open Go.RowKit

theorem cutAt_app {c : UInt8} : ∀ {p : List UInt8} (r : List UInt8), c ∉ p → cutAt c (p ++ c :: r) = some (p, r) := by
  intro p
  induction p with
  | nil => intro r _; simp [cutAt]
  | cons b p ih =>
    intro r h
    have h1 : ¬ b = c := fun e => h (by simp [e])
    have h2 : c ∉ p := fun e => h (by simp [e])
    rw [List.cons_append]
    unfold cutAt
    rw [if_neg (by simpa using h1), ih r h2]; rfl
theorem cutAt_not {c : UInt8} : ∀ {p : List UInt8}, c ∉ p → cutAt c p = none := by
  intro p
  induction p with
  | nil => intro _; rfl
  | cons b p ih =>
    intro h
    have h1 : ¬ b = c := fun e => h (by simp [e])
    have h2 : c ∉ p := fun e => h (by simp [e])
    unfold cutAt
    rw [if_neg (by simpa using h1), ih h2]; rfl
theorem piece_app {c : UInt8} {p : List UInt8} (r : List UInt8) (h : c ∉ p) : pieceL c (p ++ c :: r) = p ∧ restL c (p ++ c :: r) = r ∧ ∀ u, usedB c (p ++ c :: r) u = u := by
  unfold pieceL restL usedB
  rw [cutAt_app r h]
  exact ⟨rfl, rfl, fun _ => rfl⟩
theorem piece_not {c : UInt8} {p : List UInt8} (h : c ∉ p) : pieceL c p = p ∧ restL c p = [] ∧ ∀ u, usedB c p u = true := by
  unfold pieceL restL usedB
  rw [cutAt_not h]
  exact ⟨rfl, rfl, fun _ => rfl⟩
/-- No space and no end of a line. -/
def clB (l : List UInt8) : Bool := l.all fun c => c != 32 && c != 10
theorem cl_sp {l : List UInt8} (h : clB l = true) : (32 : UInt8) ∉ l := by
  intro hm
  unfold clB at h
  rw [List.all_eq_true] at h
  have := h _ hm
  simp at this
theorem cl_nl {l : List UInt8} (h : clB l = true) : (10 : UInt8) ∉ l := by
  intro hm
  unfold clB at h
  rw [List.all_eq_true] at h
  have := h _ hm
  simp at this
theorem cl_app {a b : List UInt8} (ha : clB a = true) (hb : clB b = true) : clB (a ++ b) = true := by
  unfold clB at *
  rw [List.all_append, ha, hb]; rfl
/-- The digits of a number below 1000. -/
def ddL (n : Nat) : List UInt8 := if n < 10 then [UInt8.ofNat (48 + n)] else if n < 100 then [UInt8.ofNat (48 + n / 10), UInt8.ofNat (48 + n % 10)] else [UInt8.ofNat (48 + n / 10 / 10), UInt8.ofNat (48 + n / 10 % 10), UInt8.ofNat (48 + n % 10)]
theorem itoa_dd (n : Nat) (h : n < 1000) : Lib.itoa (n : Int) = ddL n := by
  unfold Lib.itoa
  rw [if_neg (by omega), Int.toNat_natCast]
  unfold ddL
  by_cases h1 : n < 10
  · rw [Lib.decDigits, dif_pos h1, if_pos h1]
  · rw [Lib.decDigits, dif_neg h1, if_neg h1]
    by_cases h2 : n < 100
    · rw [Lib.decDigits, dif_pos (by omega), if_pos h2]; rfl
    · rw [Lib.decDigits, dif_neg (by omega), Lib.decDigits, dif_pos (by omega), if_neg h2]; rfl
theorem dd_all : allB 1000 (fun n => decide (atoiE (ddL n) = some (n : Int)) && clB (ddL n)) = true := by decide +kernel
theorem itoa_cl (n : Int) (h0 : 0 ≤ n) (h : n < 1000) : clB (Lib.itoa n) = true := by
  have := allB_out dd_all n.toNat (by omega)
  rw [Bool.and_eq_true] at this
  rw [show n = ((n.toNat : Nat) : Int) from by omega, itoa_dd n.toNat (by omega)]
  exact this.2
theorem numF_itoa (most n : Int) (h0 : 0 ≤ n) (h : n < 1000) (hm : n ≤ most) : numF most (Lib.itoa n) = some n := by
  have := allB_out dd_all n.toNat (by omega)
  rw [Bool.and_eq_true] at this
  have h2 := of_decide_eq_true this.1
  rw [← itoa_dd n.toNat (by omega), show ((n.toNat : Nat) : Int) = n from by omega] at h2
  unfold numF
  rw [h2]
  simp only
  rw [if_pos ⟨h0, hm, by trivial⟩]
theorem st_app {p r : List UInt8} {u x : Bool} (h : clB p = true) : (Fds.mk (p ++ 32 :: r) u x).word = p ∧ (Fds.mk (p ++ 32 :: r) u x).next = ⟨r, u, x⟩ := by
  obtain ⟨h1, h2, h3⟩ := piece_app r (cl_sp h)
  unfold Fds.word Fds.next
  exact ⟨h1, by rw [h2, h3]⟩
theorem st_last {p : List UInt8} {u x : Bool} (h : clB p = true) : (Fds.mk p u x).word = p ∧ (Fds.mk p u x).next = ⟨[], true, x⟩ := by
  obtain ⟨h1, h2, h3⟩ := piece_not (cl_sp h)
  unfold Fds.word Fds.next
  exact ⟨h1, by rw [h2, h3]⟩
theorem word_app {p r : List UInt8} (h : clB p = true) : (Fds.mk (p ++ 32 :: r) false false).wordS p = ⟨r, false, false⟩ := by
  obtain ⟨h1, h2⟩ := st_app (p := p) (r := r) (u := false) (x := false) h
  unfold Fds.wordS
  rw [h1, h2, eqB_refl rfl]; rfl
theorem num_app {most n : Int} {r : List UInt8} (h0 : 0 ≤ n) (h : n < 1000) (hm : n ≤ most) : (Fds.mk (Lib.itoa n ++ 32 :: r) false false).numS most = ⟨r, false, false⟩ ∧ (Fds.mk (Lib.itoa n ++ 32 :: r) false false).num most = n := by
  obtain ⟨h1, h2⟩ := st_app (p := Lib.itoa n) (r := r) (u := false) (x := false) (itoa_cl n h0 h)
  unfold Fds.numS Fds.num
  rw [h1, h2, numF_itoa most n h0 h hm]
  exact ⟨rfl, rfl⟩
theorem num_last {most n : Int} (h0 : 0 ≤ n) (h : n < 1000) (hm : n ≤ most) : (Fds.mk (Lib.itoa n) false false).numS most = ⟨[], true, false⟩ ∧ (Fds.mk (Lib.itoa n) false false).num most = n := by
  obtain ⟨h1, h2⟩ := st_last (p := Lib.itoa n) (u := false) (x := false) (itoa_cl n h0 h)
  unfold Fds.numS Fds.num
  rw [h1, h2, numF_itoa most n h0 h hm]
  exact ⟨rfl, rfl⟩
/-- The first line. -/
def headN (m a : Int) : List UInt8 := modesW ++ 32 :: (Lib.itoa m ++ 32 :: (acceptW ++ 32 :: Lib.itoa a))
theorem headL_eq (m a : Int) : headL m a = headN m a ++ [10] := by
  unfold headL headN modesW acceptW
  simp
theorem head_read {m a : Int} (hm : 0 ≤ m ∧ m < 1000) (ha : 0 ≤ a ∧ a < 256) : (lineF (headN m a)).m4.ok = true ∧ (lineF (headN m a)).m1.num 999 = m ∧ (lineF (headN m a)).m3.num 255 = a := by
  have e1 : (lineF (headN m a)).m1 = ⟨Lib.itoa m ++ 32 :: (acceptW ++ 32 :: Lib.itoa a), false, false⟩ := word_app (p := modesW) (by decide)
  obtain ⟨e2, n2⟩ := num_app (most := 999) (r := acceptW ++ 32 :: Lib.itoa a) hm.1 hm.2 (by omega)
  have e3 : (Fds.mk (acceptW ++ 32 :: Lib.itoa a) false false).wordS acceptW = ⟨Lib.itoa a, false, false⟩ := word_app (by decide)
  obtain ⟨e4, n4⟩ := num_last (most := 255) ha.1 (by omega) (by omega)
  unfold Fds.m4 Fds.m3 Fds.m2
  rw [e1, e2, e3, e4, n2, n4]
  exact ⟨rfl, rfl, rfl⟩
theorem head_nl {m a : Int} (hm : 0 ≤ m ∧ m < 1000) (ha : 0 ≤ a ∧ a < 256) : (10 : UInt8) ∉ headN m a := by
  have h1 := cl_nl (itoa_cl m hm.1 hm.2)
  have h2 := cl_nl (itoa_cl a ha.1 (by omega))
  have h3 : (10 : UInt8) ∉ modesW := by decide
  have h4 : (10 : UInt8) ∉ acceptW := by decide
  unfold headN
  simp only [List.mem_append, List.mem_cons, not_or]
  exact ⟨h3, by decide, h1, by decide, h4, by decide, h2⟩
theorem dots_all : allB 64 (fun z => clB (toU (dotsText z)) && !(toU (dotsText z)).contains 45 && decide (1 ≤ (dotsText z).length)) = true := by decide +kernel
theorem dots_facts {z : Int} (h : 0 ≤ z ∧ z < 64) : clB (toU (dotsText z.toNat)) = true ∧ (45 : UInt8) ∉ toU (dotsText z.toNat) ∧ paE (bytes (strU (toU (dotsText z.toNat)))) = 0 ∧ paC (bytes (strU (toU (dotsText z.toNat)))) = z := by
  have := allB_out dots_all z.toNat (by omega)
  rw [Bool.and_eq_true, Bool.and_eq_true] at this
  obtain ⟨⟨h1, h2⟩, _⟩ := this
  have h3 := parse_text z.toNat (by omega)
  rw [strOf_toU] at h3
  refine ⟨h1, by simpa using h2, ?_, ?_⟩
  · unfold paE; rw [h3]; rfl
  · unfold paC; rw [h3]; simp; omega
theorem fmtCells_one (z : Int) : fmtCells [z] = toU (dotsText z.toNat) := by unfold fmtCells; simp [Lib.join_one]
theorem fmtCells_two (z y : Int) (r : List Int) : fmtCells (z :: y :: r) = toU (dotsText z.toNat) ++ 45 :: fmtCells (y :: r) := by
  unfold fmtCells
  rw [List.map_cons, Lib.join_cons, List.map_cons, Lib.join_cons]
  simp [Lib.joinTail]
theorem cells_read : ∀ (c : List Int) (k : Nat) (acc : List Int), c ≠ [] → (∀ z ∈ c, 0 ≤ z ∧ z < 64) → c.length ≤ k → cellsG k (fmtCells c) acc = some (acc ++ c) := by
  intro c
  induction c with
  | nil => intro k acc h; exact absurd rfl h
  | cons z r ih =>
    intro k acc _ hz hk
    obtain ⟨f1, f2, f3, f4⟩ := dots_facts (hz z (by simp))
    cases k with
    | zero => simp at hk
    | succ k =>
      cases r with
      | nil =>
        rw [fmtCells_one]
        obtain ⟨p1, _, p3⟩ := piece_not f2
        unfold cellsG
        rw [p1, p3, if_pos f3, if_pos rfl, f4]
      | cons y r =>
        rw [fmtCells_two]
        obtain ⟨p1, p2, p3⟩ := piece_app (fmtCells (y :: r)) f2
        unfold cellsG
        rw [p1, p2, p3, if_pos f3, if_neg (by decide), f4, ih k _ (by simp) (fun w hw => hz w (by simp [hw])) (by simpa using hk)]
        simp
theorem cells_cl : ∀ (c : List Int), (∀ z ∈ c, 0 ≤ z ∧ z < 64) → clB (fmtCells c) = true := by
  intro c
  induction c with
  | nil => intro _; rfl
  | cons z r ih =>
    intro hz
    obtain ⟨f1, _⟩ := dots_facts (hz z (by simp))
    cases r with
    | nil => rw [fmtCells_one]; exact f1
    | cons y r =>
      rw [fmtCells_two]
      refine cl_app f1 ?_
      have := ih (fun w hw => hz w (by simp [hw]))
      unfold clB at *
      rw [List.all_cons, this]; rfl
theorem cells_room : ∀ (c : List Int), (∀ z ∈ c, 0 ≤ z ∧ z < 64) → c.length ≤ (fmtCells c).length + 1 := by
  intro c
  induction c with
  | nil => intro _; simp
  | cons z r ih =>
    intro hz
    cases r with
    | nil => simp
    | cons y r =>
      rw [fmtCells_two]
      have := ih (fun w hw => hz w (by simp [hw]))
      simp only [List.length_append, List.length_cons] at *
      omega
theorem hex_all : allB 256 (fun b => clB (toU [hexI (b / 16), hexI (b % 16)]) && decide (Lib.indexByte hexD (UInt8.ofNat (hexI (b / 16)).toNat) = ((b / 16 : Nat) : Int)) && decide (Lib.indexByte hexD (UInt8.ofNat (hexI (b % 16)).toNat) = ((b % 16 : Nat) : Int))) = true := by decide +kernel
theorem hexes_cl : ∀ (l : List Nat), (∀ b ∈ l, b < 256) → clB (toU (hexes l)) = true := by
  intro l
  induction l with
  | nil => intro _; rfl
  | cons b r ih =>
    intro hb
    have := allB_out hex_all b (hb b (by simp))
    rw [Bool.and_eq_true, Bool.and_eq_true] at this
    have e : toU (hexes (b :: r)) = toU [hexI (b / 16), hexI (b % 16)] ++ toU (hexes r) := by
      unfold hexes toU
      rw [List.flatMap_cons, List.map_append]
    rw [e]
    exact cl_app this.1.1 (ih fun x hx => hb x (by simp [hx]))
theorem print_cl (l : List Nat) (hb : ∀ b ∈ l, b < 256) : clB (toU (fmtPrint l)) = true := by
  unfold fmtPrint
  split
  · decide
  · exact hexes_cl l hb
theorem hexes_at : ∀ (l : List Nat) (i : Nat) (h : i < l.length), (toU (hexes l)).getD (2 * i) 0 = UInt8.ofNat (hexI (l[i] / 16)).toNat ∧ (toU (hexes l)).getD (2 * i + 1) 0 = UInt8.ofNat (hexI (l[i] % 16)).toNat := by
  intro l
  induction l with
  | nil => intro i h; simp at h
  | cons b r ih =>
    intro i h
    have e : toU (hexes (b :: r)) = UInt8.ofNat (hexI (b / 16)).toNat :: UInt8.ofNat (hexI (b % 16)).toNat :: toU (hexes r) := by
      unfold hexes toU
      rw [List.flatMap_cons, List.map_append]; rfl
    rw [e]
    cases i with
    | zero => exact ⟨rfl, rfl⟩
    | succ i =>
      obtain ⟨h1, h2⟩ := ih i (by simpa using h)
      rw [show 2 * (i + 1) = (2 * i + 1) + 1 from by omega, show 2 * i + 1 + 1 + 1 = (2 * i + 1 + 1) + 1 from rfl]
      simp only [List.getD_cons_succ, List.getElem_cons_succ]
      exact ⟨h1, h2⟩
theorem print_read (l : List Nat) (hb : ∀ b ∈ l, b < 256) : prOf (toU (fmtPrint l)) = some (l.map fun b : Nat => (b : Int)) := by
  unfold fmtPrint
  by_cases h : l = []
  · subst h; rw [if_pos rfl]; rfl
  · rw [if_neg h]
    have hl : (toU (hexes l)).length = 2 * l.length := by unfold toU; rw [List.length_map, hexes_len]
    have hp : 0 < l.length := List.length_pos_iff.2 h
    unfold prOf
    rw [if_neg (fun e => by rw [e] at hl; simp at hl; omega), if_neg (fun e => by rw [e] at hl; simp at hl; omega), if_neg (by omega)]
    rw [show (toU (hexes l)).length / 2 = l.length from by omega]
    have key : ∀ i (hi : i < l.length), hexV (toU (hexes l)) (2 * i) = ((l[i] / 16 : Nat) : Int) ∧ hexV (toU (hexes l)) (2 * i + 1) = ((l[i] % 16 : Nat) : Int) := by
      intro i hi
      obtain ⟨h1, h2⟩ := hexes_at l i hi
      have := allB_out hex_all l[i] (hb _ (List.getElem_mem hi))
      rw [Bool.and_eq_true, Bool.and_eq_true] at this
      unfold hexV
      rw [h1, h2]
      exact ⟨of_decide_eq_true this.1.2, of_decide_eq_true this.2⟩
    rw [if_pos]
    · congr 1
      apply List.ext_getElem
      · simp
      · intro i h1 h2
        simp only [List.length_map, List.length_range] at h1
        obtain ⟨k1, k2⟩ := key i h1
        simp only [List.getElem_map, List.getElem_range]
        unfold hexW
        rw [k1, k2]; omega
    · rw [List.all_eq_true]
      intro i hi
      obtain ⟨k1, k2⟩ := key i (List.mem_range.1 hi)
      unfold hexOk
      rw [k1, k2]
      simp
      omega
/-- A rule whose line is read again. -/
def Rule.nice (x : Rule) : Prop := x.c ≠ [] ∧ (∀ z ∈ x.c, 0 ≤ z ∧ z < 64) ∧ (0 ≤ x.l ∧ x.l < 256) ∧ (0 ≤ x.r ∧ x.r < 256) ∧ (0 ≤ x.f ∧ x.f < 1000) ∧ (0 ≤ x.t ∧ x.t < 1000)
def ruleN (x : Rule) : List UInt8 := Lib.itoa x.f ++ 32 :: (Lib.itoa x.t ++ 32 :: (Lib.itoa x.l ++ 32 :: (Lib.itoa x.r ++ 32 :: (fmtCells x.c ++ 32 :: toU (fmtPrint (bytes x.p))))))
theorem fmtRule_eq (x : Rule) : fmtRule x = ruleN x ++ [10] := by
  unfold fmtRule rowL ruleN
  rw [Lib.join_cons]
  simp [Lib.joinTail]
theorem strOf_bytes (s : ByteArray) : strOf ((bytes s).map fun b : Nat => (b : Int)) = s := by
  unfold strOf bytes
  apply ByteArray.ext
  simp [List.map_map, Function.comp_def]
theorem rule_read {x : Rule} (h : x.nice) : (lineF (ruleN x)).r6.ok = true ∧ (lineF (ruleN x)).ru = x := by
  obtain ⟨h1, h2, h3, h4, h5, h6⟩ := h
  have hb : ∀ b ∈ bytes x.p, b < 256 := fun b hb => bytes_lt x.p b hb
  obtain ⟨e1, n1⟩ := num_app (most := 999) (n := x.f) (r := Lib.itoa x.t ++ 32 :: (Lib.itoa x.l ++ 32 :: (Lib.itoa x.r ++ 32 :: (fmtCells x.c ++ 32 :: toU (fmtPrint (bytes x.p)))))) h5.1 h5.2 (by omega)
  obtain ⟨e2, n2⟩ := num_app (most := 999) (n := x.t) (r := Lib.itoa x.l ++ 32 :: (Lib.itoa x.r ++ 32 :: (fmtCells x.c ++ 32 :: toU (fmtPrint (bytes x.p))))) h6.1 h6.2 (by omega)
  obtain ⟨e3, n3⟩ := num_app (most := 255) (n := x.l) (r := Lib.itoa x.r ++ 32 :: (fmtCells x.c ++ 32 :: toU (fmtPrint (bytes x.p)))) h3.1 (by omega) (by omega)
  obtain ⟨e4, n4⟩ := num_app (most := 255) (n := x.r) (r := fmtCells x.c ++ 32 :: toU (fmtPrint (bytes x.p))) h4.1 (by omega) (by omega)
  have f1 : (lineF (ruleN x)).r1 = _ := e1
  have f2 : (lineF (ruleN x)).r2 = ⟨Lib.itoa x.l ++ 32 :: (Lib.itoa x.r ++ 32 :: (fmtCells x.c ++ 32 :: toU (fmtPrint (bytes x.p)))), false, false⟩ := by unfold Fds.r2; rw [f1]; exact e2
  have f3 : (lineF (ruleN x)).r3 = ⟨Lib.itoa x.r ++ 32 :: (fmtCells x.c ++ 32 :: toU (fmtPrint (bytes x.p))), false, false⟩ := by unfold Fds.r3; rw [f2]; exact e3
  have f4 : (lineF (ruleN x)).r4 = ⟨fmtCells x.c ++ 32 :: toU (fmtPrint (bytes x.p)), false, false⟩ := by unfold Fds.r4; rw [f3]; exact e4
  obtain ⟨w5, s5⟩ := st_app (p := fmtCells x.c) (r := toU (fmtPrint (bytes x.p))) (u := false) (x := false) (cells_cl x.c h2)
  have c5 : (Fds.mk (fmtCells x.c ++ 32 :: toU (fmtPrint (bytes x.p))) false false).cs = some x.c := by
    unfold Fds.cs
    rw [w5, cells_read x.c _ [] h1 h2 (cells_room x.c h2)]; rfl
  have f5 : (lineF (ruleN x)).r5 = ⟨toU (fmtPrint (bytes x.p)), false, false⟩ := by
    unfold Fds.r5; rw [f4]; unfold Fds.csS; rw [c5, s5]; rfl
  obtain ⟨w6, s6⟩ := st_last (p := toU (fmtPrint (bytes x.p))) (u := false) (x := false) (print_cl _ hb)
  have p6 := print_read (bytes x.p) hb
  have f6 : (lineF (ruleN x)).r6 = ⟨[], true, false⟩ := by
    unfold Fds.r6; rw [f5]; unfold Fds.prS; rw [w6, p6, s6]; rfl
  refine ⟨by rw [f6]; rfl, ?_⟩
  unfold Fds.ru
  rw [f1, f2, f3, f4, f5, n2, n3, n4]
  have n1' : (lineF (ruleN x)).num 999 = x.f := n1
  rw [n1']
  unfold Fds.csL Fds.prL
  rw [c5, w6, p6, Option.getD_some, Option.getD_some, strOf_bytes]
theorem rule_nl {x : Rule} (h : x.nice) : (10 : UInt8) ∉ ruleN x := by
  obtain ⟨h1, h2, h3, h4, h5, h6⟩ := h
  have hb : ∀ b ∈ bytes x.p, b < 256 := fun b hb => bytes_lt x.p b hb
  unfold ruleN
  simp only [List.mem_append, List.mem_cons, not_or]
  exact ⟨cl_nl (itoa_cl _ h5.1 h5.2), by decide, cl_nl (itoa_cl _ h6.1 h6.2), by decide, cl_nl (itoa_cl _ h3.1 (by omega)), by decide, cl_nl (itoa_cl _ h4.1 (by omega)), by decide, cl_nl (cells_cl _ h2), by decide, cl_nl (print_cl _ hb)⟩
theorem rules_read (m a : Int) : ∀ (rs acc : List Rule) (n k : Nat), n ≠ 0 → rs.length < k → (∀ x ∈ rs, x.nice) → parseG k n (rs.map fmtRule).flatten m a acc = .done m a (acc ++ rs) := by
  intro rs
  induction rs with
  | nil =>
    intro acc n k hn hk _
    cases k with
    | zero => simp at hk
    | succ k => unfold parseG; rw [if_neg hn, if_pos (show (([] : List Rule).map fmtRule).flatten = [] from rfl), List.append_nil]
  | cons x r ih =>
    intro acc n k hn hk hx
    cases k with
    | zero => simp at hk
    | succ k =>
      have hxn := hx x (by simp)
      obtain ⟨q1, q2⟩ := rule_read hxn
      obtain ⟨p1, p2, p3⟩ := piece_app (r.map fmtRule).flatten (rule_nl hxn)
      have e : ((x :: r).map fmtRule).flatten = ruleN x ++ 10 :: (r.map fmtRule).flatten := by
        rw [List.map_cons, List.flatten_cons, fmtRule_eq, List.append_assoc]; rfl
      rw [e]
      unfold parseG
      rw [if_neg hn, if_neg (by simp), p1, p2, p3, q1, q2, if_neg (by decide), ih _ (n + 1) k (by omega) (by simpa using hk) (fun y hy => hx y (by simp [hy]))]
      simp
theorem flat_len (rs : List Rule) : rs.length ≤ (rs.map fmtRule).flatten.length := by
  induction rs with
  | nil => simp
  | cons x r ih =>
    rw [List.map_cons, List.flatten_cons, fmtRule_eq]
    simp only [List.length_append, List.length_cons, List.length_nil]
    omega
theorem fmtTable_eq (m a : Int) (rs : List Rule) : fmtTable m a rs = headN m a ++ 10 :: (rs.map fmtRule).flatten := by
  unfold fmtTable linesL
  rw [Lib.join_cons, headL_eq]
  simp [Lib.joinTail, Function.comp_def]
theorem table_read {m a : Int} {rs : List Rule} (hm : 0 ≤ m ∧ m < 1000) (ha : 0 ≤ a ∧ a < 256) (hr : ∀ x ∈ rs, x.nice) : parseT (fmtTable m a rs) = .done m a rs := by
  obtain ⟨q1, q2, q3⟩ := head_read hm ha
  obtain ⟨p1, p2, p3⟩ := piece_app (rs.map fmtRule).flatten (head_nl hm ha)
  unfold parseT
  rw [fmtTable_eq]
  have hl := flat_len rs
  obtain ⟨k, hk⟩ : ∃ k, (headN m a ++ 10 :: (rs.map fmtRule).flatten).length + 2 = k + 1 := ⟨_, rfl⟩
  rw [hk]
  unfold parseG
  rw [if_pos rfl, p1, p2, p3, q1, q2, q3, if_neg (by decide), rules_read m a rs [] 1 k (by decide) (by simp only [List.length_append, List.length_cons] at hk; omega) hr]
  rfl
theorem good_facts {m a : Int} {rs : List Rule} (h : GoodL m a rs) (hf : ∀ x ∈ rs, x.fits) : (∀ x ∈ rs, x.nice) ∧ (∀ x ∈ rs, x.plain) ∧ (1 ≤ m ∧ m ≤ 8) ∧ chkE m a rs = 0 := by
  have hv := valid_iff.2 h
  obtain ⟨hn, _, hs⟩ := h
  unfold numsB at hn
  simp only [Bool.and_eq_true, decide_eq_true_eq] at hn
  have hm : 1 ≤ m ∧ m ≤ 8 := ⟨hn.1.1.1.1.1, hn.1.1.1.1.2⟩
  have key : ∀ x ∈ rs, x.nice ∧ x.plain := by
    intro x hx
    have h1 := hs x hx
    obtain ⟨f1, f2, f3, f4, f5, f6, f7⟩ := hf x hx
    unfold soundB cellsB maskB modeB at h1
    simp only [Bool.and_eq_true, decide_eq_true_eq, List.all_eq_true] at h1
    obtain ⟨⟨⟨⟨⟨⟨⟨s1, s2⟩, s3⟩, s4⟩, s5⟩, s6⟩, s7⟩, s8⟩ := h1
    have hz : ∀ z ∈ x.c, 0 ≤ z ∧ z < 64 := fun z hz => by have := s3.2 z hz; have := (f3 z hz).1; omega
    have hc : x.c ≠ [] := fun e => by have := s3.1.1; rw [e] at this; simp at this
    exact ⟨⟨hc, hz, f4, f5, by omega, by omega⟩, by omega, by omega, hz, f4, f5, f6, f7⟩
  refine ⟨fun x hx => (key x hx).1, fun x hx => (key x hx).2, hm, ?_⟩
  unfold validB at hv
  simpa using hv
end Go.Proofs.YtiedaongfjcbhabGreatDoor
