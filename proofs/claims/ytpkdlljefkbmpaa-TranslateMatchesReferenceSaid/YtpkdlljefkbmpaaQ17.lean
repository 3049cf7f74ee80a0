/- Merged by program: Gr10 Gr11 Aut5 Inv7 -/
import Derived.Test.YtpkdlljefkbmpaaQ16
import Derived.Test.YtpkdlljefkbmpaaQ14
import Derived.Deep.RegionHeld3
import Derived.Deep.QuietTactic
import Derived.Test.YtpkdlljefkbmpaaQ15

/-! Which states are alive. -/
namespace Go.Proofs.Ytpkdlljefkbmpaa
open Go.RowKit Go.Maps
inductive Alv (a : Int) (rs : List Rule) : St → Prop
 | acc {s : St} : accB a s = true → Alv a rs s
 | step {s : St} (k : Nat) : k < rs.length → (stepS rs s k).2 = true → Alv a rs (stepS rs s k).1 → Alv a rs s
theorem addB_at {B : List (List Nat)} {p i j : Nat} {l : List Nat} (h : (addB B p i)[j]? = some l) : (∃ l0, B[j]? = some l0 ∧ j = p ∧ l = l0 ++ [i]) ∨ (B[j]? = some l ∧ j ≠ p) := by
 unfold addB at h
 by_cases e : p = j
 ·
  subst e
  have hp : p < B.length := by have := (List.getElem?_eq_some_iff.1 h).1; simpa using this
  rw [List.getElem?_set_self hp, List.getD_eq_getElem?_getD, List.getElem?_eq_getElem hp] at h
  exact .inl ⟨_, List.getElem?_eq_getElem hp, rfl, by simpa using h.symm⟩
 ·
  rw [List.getElem?_set_ne e] at h
  exact .inr ⟨h, Ne.symm e⟩
theorem addB_grow {B : List (List Nat)} {p i j : Nat} {l : List Nat} (h : B[j]? = some l) : ∃ l', (addB B p i)[j]? = some l' ∧ (∀ x ∈ l, x ∈ l') ∧ (j = p → i ∈ l') := by
 have hj := (List.getElem?_eq_some_iff.1 h).1
 unfold addB
 by_cases e : p = j
 ·
  subst e
  refine ⟨_, List.getElem?_set_self hj, fun x hx => ?_, fun _ => ?_⟩
  ·
   rw [List.getD_eq_getElem?_getD, h]; exact List.mem_append.2 (.inl hx)
  ·
   exact List.mem_append.2 (.inr (List.mem_singleton.2 rfl))
 ·
  exact ⟨l, by rw [List.getElem?_set_ne e]; exact h, fun x hx => hx, fun e2 => absurd e2.symm e⟩
theorem insB_at {L : List St} {B : List (List Nat)} {u : St} {j : Nat} {l : List Nat} (h : (insB L B u)[j]? = some l) : B[j]? = some l ∨ l = [] := by
 unfold insB at h
 split at h
 ·
  exact .inl h
 ·
  rcases Nat.lt_or_ge j B.length with g | g
  ·
   rw [List.getElem?_append_left g] at h; exact .inl h
  ·
   rw [List.getElem?_append_right g] at h
   have := (List.getElem?_eq_some_iff.1 h).1
   have e : j - B.length = 0 := by simp at this; omega
   rw [e] at h
   simp at h
   exact .inr h
theorem insB_more {L : List St} {B : List (List Nat)} {u : St} {j : Nat} {l : List Nat} (h : B[j]? = some l) : (insB L B u)[j]? = some l := by
 unfold insB; split
 ·
  exact h
 ·
  rw [List.getElem?_append_left (List.getElem?_eq_some_iff.1 h).1]; exact h
theorem ins_idx {L : List St} (u : St) : (insS L u)[L.idxOf u]? = some u := by
 unfold insS
 by_cases h : u ∈ L
 ·
  rw [if_pos h]
  have hl := List.idxOf_lt_length_of_mem h
  rw [List.getElem?_eq_getElem hl, List.getElem_idxOf]
 ·
  rw [if_neg h, List.idxOf_eq_length h, List.getElem?_append_right (Nat.le_refl _)]
  simp
def SoundB (rs : List Rule) (G : Gr) : Prop := ∀ (j : Nat) (l : List Nat), G.2[j]? = some l → ∀ x ∈ l, ∃ (t s : St) (k : Nat), G.1[x]? = some t ∧ G.1[j]? = some s ∧ k < rs.length ∧ stepS rs t k = (s, true)
theorem edge_sound {rs : List Rule} {i r : Nat} {s : St} {G : Gr} (h : SoundB rs G) (hs : G.1[i]? = some s) (hr : r < rs.length) : SoundB rs (edgeG rs i s r G) := by
 have hm := edge_more rs i s r G
 intro j l hl x hx
 unfold edgeG at hl hm ⊢
 split at hl
 ·
  rename_i hc
  rw [if_pos hc] at hm ⊢
  dsimp only at hl hm ⊢
  have old : ∀ l0, (insB G.1 G.2 (stepS rs s r).1)[j]? = some l0 → x ∈ l0 → ∃ (t u : St) (k : Nat), (insS G.1 (stepS rs s r).1)[x]? = some t ∧ (insS G.1 (stepS rs s r).1)[j]? = some u ∧ k < rs.length ∧ stepS rs t k = (u, true) := by
   intro l0 h0 hx0
   rcases insB_at h0 with g | g
   ·
    obtain ⟨t, u, k, h1, h2, h3, h4⟩ := h j l0 g x hx0
    exact ⟨t, u, k, more_at hm h1, more_at hm h2, h3, h4⟩
   ·
    rw [g] at hx0; cases hx0
  rcases addB_at hl with ⟨l0, h0, e, e2⟩ | ⟨h0, _⟩
  ·
   rw [e2] at hx
   rcases List.mem_append.1 hx with g | g
   ·
    exact old l0 h0 g
   ·
    rw [List.mem_singleton] at g
    rw [g, e]
    exact ⟨s, _, r, more_at hm hs, ins_idx _, hr, Prod.ext rfl hc.1⟩
  ·
   exact old l h0 hx
 ·
  rename_i hc
  rw [if_neg hc]
  exact h j l hl x hx
theorem row_sound {rs : List Rule} {i : Nat} {s : St} {G : Gr} (h : SoundB rs G) (hs : G.1[i]? = some s) : ∀ n, n ≤ rs.length → SoundB rs (rowG rs i s n G) := by
 intro n
 induction n with
 | zero => intro _; exact h
 | succ n ih => intro hn; exact edge_sound (ih (by omega)) (more_at (row_more rs i s G n) hs) (by omega)
theorem theG_sound (rs : List Rule) : SoundB rs (theG rs) :=
 exp_inv (SoundB rs) (fun _ _ _ h hs => row_sound h hs _ (Nat.le_refl _)) _ _ _ (fun j l hl x hx => by
  have h0 := List.mem_of_getElem? hl
  simp [startG] at h0
  rw [h0] at hx; cases hx)
def HasB (G : Gr) (i : Nat) (s : St) : Prop := ∃ (j : Nat) (l : List Nat), G.1[j]? = some s ∧ G.2[j]? = some l ∧ i ∈ l
theorem edge_has {rs : List Rule} {i r x : Nat} {s u : St} {G : Gr} (h : HasB G x u) : HasB (edgeG rs i s r G) x u := by
 have hm := edge_more rs i s r G
 obtain ⟨j, l, h1, h2, h3⟩ := h
 unfold edgeG at hm ⊢
 split
 ·
  rename_i hc
  rw [if_pos hc] at hm
  obtain ⟨l', g1, g2, _⟩ := addB_grow (p := G.1.idxOf (stepS rs s r).1) (i := i) (insB_more (L := G.1) (u := (stepS rs s r).1) h2)
  exact ⟨j, l', more_at hm h1, g1, g2 _ h3⟩
 ·
  exact ⟨j, l, h1, h2, h3⟩
theorem edge_new {rs : List Rule} {i r : Nat} {s : St} {G : Gr} (hlen : G.2.length = G.1.length) (h2 : (stepS rs s r).2 = true) (hne : (stepS rs s r).1 ≠ s) : HasB (edgeG rs i s r G) i (stepS rs s r).1 := by
 unfold edgeG
 rw [if_pos ⟨h2, hne⟩]
 have hj := (List.getElem?_eq_some_iff.1 (ins_idx (L := G.1) (stepS rs s r).1)).1
 have hl2 := len_insB (s := (stepS rs s r).1) hlen
 obtain ⟨l', g1, _, g3⟩ := addB_grow (p := G.1.idxOf (stepS rs s r).1) (i := i) (List.getElem?_eq_getElem (show G.1.idxOf (stepS rs s r).1 < (insB G.1 G.2 (stepS rs s r).1).length by rw [hl2]; exact hj))
 exact ⟨_, l', ins_idx _, g1, g3 rfl⟩
theorem row_has {rs : List Rule} {i x : Nat} {s u : St} {G : Gr} (h : HasB G x u) : ∀ n, HasB (rowG rs i s n G) x u := by
 intro n
 induction n with
 | zero => exact h
 | succ n ih => exact edge_has ih
def LenG (G : Gr) : Prop := G.2.length = G.1.length
theorem edge_lenG {rs : List Rule} {i r : Nat} {s : St} {G : Gr} (h : LenG G) : LenG (edgeG rs i s r G) := by
 unfold LenG edgeG
 split
 ·
  show (addB _ _ _).length = _
  unfold addB
  rw [List.length_set]
  exact len_insB h
 ·
  exact h
theorem row_lenG {rs : List Rule} {i : Nat} {s : St} {G : Gr} (h : LenG G) : ∀ n, LenG (rowG rs i s n G) := by
 intro n
 induction n with
 | zero => exact h
 | succ n ih => exact edge_lenG ih
theorem row_new {rs : List Rule} {i : Nat} {s : St} {G : Gr} (h : LenG G) : ∀ n k : Nat, k < n → (stepS rs s k).2 = true → (stepS rs s k).1 ≠ s → HasB (rowG rs i s n G) i (stepS rs s k).1 := by
 intro n
 induction n with
 | zero => intro k hk; omega
 | succ n ih =>
  intro k hk h2 hne
  rcases Nat.lt_or_ge k n with g | g
  ·
   exact edge_has (ih k g h2 hne)
  ·
   obtain rfl : k = n := by omega
   exact edge_new (row_lenG h k) h2 hne
def CompB (rs : List Rule) (G : Gr) (i : Nat) : Prop := ∀ (x : Nat) (t : St), x < i → G.1[x]? = some t → ∀ k : Nat, k < rs.length → (stepS rs t k).2 = true → (stepS rs t k).1 ≠ t → HasB G x (stepS rs t k).1
theorem row_comp {rs : List Rule} {i : Nat} {s : St} {G : Gr} (hl : LenG G) (h : CompB rs G i) (hs : G.1[i]? = some s) : CompB rs (rowG rs i s rs.length G) (i + 1) := by
 intro x t hx ht k hk h2 hne
 have hm := row_more rs i s G rs.length
 have hil := (List.getElem?_eq_some_iff.1 hs).1
 have ht' := at_more hm (show x < G.1.length by omega) ht
 rcases Nat.lt_or_ge x i with g | g
 ·
  exact row_has (h x t g ht' k hk h2 hne) _
 ·
  obtain rfl : x = i := by omega
  rw [hs] at ht'
  cases ht'
  exact row_new hl _ k hk h2 hne
theorem exp_comp {rs : List Rule} : ∀ f i G, LenG G → CompB rs G i → (expG rs f i G).1.length < i + f → CompB rs (expG rs f i G) (expG rs f i G).1.length := by
 intro f
 induction f with
 | zero =>
  intro i G _ h hl x t hx
  have : expG rs 0 i G = G := rfl
  rw [this] at hl hx ⊢
  exact h x t (by omega)
 | succ f ih =>
  intro i G hg h hl
  unfold expG at hl ⊢
  cases hs : G.1[i]? with
  | none =>
   rw [hs] at hl
   dsimp only at hl ⊢
   intro x t hx
   have : G.1.length ≤ i := by
    rcases Nat.lt_or_ge i G.1.length with g | g
    ·
     rw [List.getElem?_eq_getElem g] at hs; cases hs
    ·
     exact g
   exact h x t (by omega)
  | some s =>
   rw [hs] at hl
   dsimp only at hl ⊢
   exact ih _ _ (row_lenG hg _) (row_comp hg h hs) (by omega)
theorem theG_comp {m a : Int} {rs : List Rule} (hG : GoodL m a rs) (hf : ∀ x ∈ rs, x.fits) (hm : 1 ≤ m ∧ m ≤ 8) : CompB rs (theG rs) (theG rs).1.length :=
 exp_comp 4000 0 startG rfl (fun x t hx => by omega) (by have := (theG_ok hG hf hm.1).le ⟨by omega, hm.2⟩; unfold theG at this; omega)
end Go.Proofs.Ytpkdlljefkbmpaa

/-! What Alive hands back says from which states an accepting one can be reached. -/
namespace Go.Proofs.Ytpkdlljefkbmpaa
open Go.RowKit Go.Maps
theorem getD_some {l : List Bool} {k : Nat} (h : k < l.length) : l.getD k true = true ↔ l[k]? = some true := by
 rw [List.getD_eq_getElem?_getD, List.getElem?_eq_getElem h]; simp
theorem wake_mono {p : Aw} {j k : Nat} (h : p.1[k]? = some true) : (wakeL p j).1[k]? = some true := by
 unfold wakeL
 split
 ·
  exact h
 ·
  show (p.1.set j true)[k]? = some true
  by_cases e : j = k
  ·
   subst e; rw [List.getElem?_set_self (List.getElem?_eq_some_iff.1 h).1]
  ·
   rw [List.getElem?_set_ne e]; exact h
theorem fold_mono {k : Nat} : ∀ (l : List Nat) {p : Aw}, p.1[k]? = some true → (l.foldl wakeL p).1[k]? = some true := by
 intro l
 induction l with
 | nil => intro p h; exact h
 | cons x l ih => intro p h; exact ih (wake_mono h)
theorem wake_self {p : Aw} {n j : Nat} (h : OkA n p) (hj : j < n) : (wakeL p j).1[j]? = some true := by
 have hl : j < p.1.length := by rw [h.1]; exact hj
 unfold wakeL
 split
 ·
  rename_i e; exact (getD_some hl).1 e
 ·
  show (p.1.set j true)[j]? = some true
  rw [List.getElem?_set_self hl]
theorem fold_all {n : Nat} : ∀ (l : List Nat) {p : Aw}, OkA n p → (∀ x ∈ l, x < n) → ∀ x ∈ l, (l.foldl wakeL p).1[x]? = some true := by
 intro l
 induction l with
 | nil => intro p _ _ x hx; cases hx
 | cons y l ih =>
  intro p h hl x hx
  have h2 := wake_ok h (hl y (List.mem_cons.2 (.inl rfl)))
  rcases List.mem_cons.1 hx with e | g
  ·
   rw [e]; exact fold_mono l (wake_self h (hl y (List.mem_cons.2 (.inl rfl))))
  ·
   exact ih h2 (fun z hz => hl z (List.mem_cons.2 (.inr hz))) x g
theorem wake_more (p : Aw) (j : Nat) : ∃ M, (wakeL p j).2 = p.2 ++ M := by
 unfold wakeL; split
 ·
  exact ⟨[], by simp⟩
 ·
  exact ⟨[j], rfl⟩
theorem fold_more : ∀ (l : List Nat) (p : Aw), ∃ M, (l.foldl wakeL p).2 = p.2 ++ M := by
 intro l
 induction l with
 | nil => intro p; exact ⟨[], by simp⟩
 | cons x l ih =>
  intro p
  obtain ⟨M, h⟩ := ih (wakeL p x)
  obtain ⟨M2, h2⟩ := wake_more p x
  exact ⟨M2 ++ M, by rw [List.foldl_cons, h, h2, List.append_assoc]⟩
def InQ (p : Aw) : Prop := ∀ k : Nat, p.1[k]? = some true → k ∈ p.2
theorem wake_inq {p : Aw} {j : Nat} (h : InQ p) : InQ (wakeL p j) := by
 intro k hk
 unfold wakeL at hk ⊢
 split at hk
 ·
  rename_i e; rw [if_pos e]; exact h k hk
 ·
  rename_i e
  rw [if_neg e]
  have hk2 : (p.1.set j true)[k]? = some true := hk
  show k ∈ p.2 ++ [j]
  by_cases e2 : j = k
  ·
   exact List.mem_append.2 (.inr (by rw [e2]; exact List.mem_singleton.2 rfl))
  ·
   rw [List.getElem?_set_ne e2] at hk2
   exact List.mem_append.2 (.inl (h k hk2))
theorem fold_inq : ∀ (l : List Nat) {p : Aw}, InQ p → InQ (l.foldl wakeL p) := by
 intro l
 induction l with
 | nil => intro p h; exact h
 | cons x l ih => intro p h; exact ih (wake_inq h)
def AllP (P : Nat → Prop) (p : Aw) : Prop := ∀ k : Nat, p.1[k]? = some true → P k
theorem wake_allp {P : Nat → Prop} {p : Aw} {j : Nat} (h : AllP P p) (hj : P j) : AllP P (wakeL p j) := by
 intro k hk
 unfold wakeL at hk
 split at hk
 ·
  exact h k hk
 ·
  have hk2 : (p.1.set j true)[k]? = some true := hk
  by_cases e2 : j = k
  ·
   rw [← e2]; exact hj
  ·
   rw [List.getElem?_set_ne e2] at hk2; exact h k hk2
theorem fold_allp {P : Nat → Prop} : ∀ (l : List Nat) {p : Aw}, AllP P p → (∀ x ∈ l, P x) → AllP P (l.foldl wakeL p) := by
 intro l
 induction l with
 | nil => intro p h _; exact h
 | cons x l ih => intro p h hl; exact ih (wake_allp h (hl x (List.mem_cons.2 (.inl rfl)))) fun y hy => hl y (List.mem_cons.2 (.inr hy))
theorem acc_inq {a : Int} {L : List St} : ∀ j, InQ (accL a L j) := by
 intro j
 induction j with
 | zero =>
  intro k hk
  unfold accL at hk
  have := List.mem_of_getElem? hk
  simp at this
 | succ j ih =>
  unfold accL
  cases hs : L[j]? with
  | none => exact ih
  | some s =>
   dsimp only
   split
   ·
    exact wake_inq ih
   ·
    exact ih
theorem acc_allp {a : Int} {L : List St} : ∀ j, AllP (fun k => ∃ s, L[k]? = some s ∧ accB a s = true) (accL a L j) := by
 intro j
 induction j with
 | zero =>
  intro k hk
  unfold accL at hk
  have := List.mem_of_getElem? hk
  simp at this
 | succ j ih =>
  unfold accL
  cases hs : L[j]? with
  | none => exact ih
  | some s =>
   dsimp only
   split
   ·
    rename_i hc; exact wake_allp ih ⟨s, hs, hc⟩
   ·
    exact ih
theorem acc_has {a : Int} {L : List St} : ∀ j k s, k < j → L[k]? = some s → accB a s = true → (accL a L j).1[k]? = some true := by
 intro j
 induction j with
 | zero => intro k s hk; omega
 | succ j ih =>
  intro k s hk hs hc
  unfold accL
  rcases Nat.lt_or_ge k j with g | g
  ·
   have h0 := ih k s g hs hc
   cases hj : L[j]? with
   | none => exact h0
   | some t =>
    dsimp only
    split
    ·
     exact wake_mono h0
    ·
     exact h0
  ·
   obtain rfl : k = j := by omega
   rw [hs]
   dsimp only
   rw [if_pos hc]
   exact wake_self (acc_ok k) (List.getElem?_eq_some_iff.1 hs).1
def ClB (B : List (List Nat)) (p : Aw) (i : Nat) : Prop := ∀ (c x : Nat) (l : List Nat), c < i → p.2[c]? = some x → B[x]? = some l → ∀ y ∈ l, p.1[y]? = some true
theorem prop_end {G : Gr} {P : Nat → Prop} (hlen : LenG G) (hlt : LtB G) (hP : ∀ x l, G.2[x]? = some l → P x → ∀ y ∈ l, P y) : ∀ f i p, OkA G.1.length p → InQ p → AllP P p → ClB G.2 p i → G.1.length < i + f →
  OkA G.1.length (propL G.2 f i p) ∧ InQ (propL G.2 f i p) ∧ AllP P (propL G.2 f i p) ∧ ClB G.2 (propL G.2 f i p) (propL G.2 f i p).2.length ∧ ∀ k : Nat, p.1[k]? = some true → (propL G.2 f i p).1[k]? = some true := by
 intro f
 induction f with
 | zero =>
  intro i p hok hq hp hc hl
  have : propL G.2 0 i p = p := rfl
  rw [this]
  have := hok.le
  exact ⟨hok, hq, hp, fun c x l h1 h2 => hc c x l (by omega) h2, fun k h => h⟩
 | succ f ih =>
  intro i p hok hq hp hc hl
  unfold propL
  cases hx : p.2[i]? with
  | none =>
   dsimp only
   have : p.2.length ≤ i := by
    rcases Nat.lt_or_ge i p.2.length with g | g
    ·
     rw [List.getElem?_eq_getElem g] at hx; cases hx
    ·
     exact g
   exact ⟨hok, hq, hp, fun c x l h1 h2 => hc c x l (by omega) h2, fun k h => h⟩
  | some x =>
   dsimp only
   have hxm := List.mem_of_getElem? hx
   obtain ⟨hxn, hxa⟩ := hok.2.2 x hxm
   have hxB : x < G.2.length := by unfold LenG at hlen; omega
   have hgl : G.2.getD x [] = G.2[x]'hxB := by rw [List.getD_eq_getElem?_getD, List.getElem?_eq_getElem hxB]; rfl
   have hBx : G.2[x]? = some (G.2[x]'hxB) := List.getElem?_eq_getElem hxB
   rw [hgl]
   have hll := hlt _ (List.getElem_mem hxB)
   have hxP : P x := hp x ((getD_some (by rw [hok.1]; exact hxn)).1 hxa)
   have hyP := hP x _ hBx hxP
   generalize G.2[x]'hxB = l at *
   have hok2 := fold_ok l hok hll
   obtain ⟨M, hM⟩ := fold_more l p
   have hil := (List.getElem?_eq_some_iff.1 hx).1
   obtain ⟨r1, r2, r3, r4, r5⟩ := ih (i + 1) (l.foldl wakeL p) hok2 (fold_inq l hq) (fold_allp l hp hyP) (fun c z l2 h1 h2 h3 y hy => by
    rw [hM, List.getElem?_append_left (by omega)] at h2
    rcases Nat.lt_or_ge c i with g | g
    ·
     exact fold_mono l (hc c z l2 g h2 h3 y hy)
    ·
     obtain rfl : c = i := by omega
     rw [hx] at h2
     cases h2
     rw [hBx] at h3
     cases h3
     exact fold_all l hok hll y hy) (by omega)
   exact ⟨r1, r2, r3, r4, fun k h => r5 k (fold_mono l h)⟩
theorem alive_iff {m a : Int} {rs : List Rule} (hG : GoodL m a rs) (hf : ∀ x ∈ rs, x.fits) (hm : 1 ≤ m ∧ m ≤ 8) {i : Nat} {s : St} (hs : (theG rs).1[i]? = some s) : (aliveL a (theG rs))[i]? = some true ↔ Alv a rs s := by
 have hok := theG_ok hG hf hm.1
 have hle := hok.le ⟨by omega, hm.2⟩
 have hcl := theG_clo hG hf hm
 have hso := theG_sound rs
 have hco := theG_comp hG hf hm
 obtain ⟨r1, r2, r3, r4, r5⟩ := prop_end (G := theG rs) (P := fun k => ∃ s, (theG rs).1[k]? = some s ∧ Alv a rs s) hok.2.2 (theG_lt rs) (fun x l hx hpx y hy => by
   obtain ⟨t, u, k, h1, h2, h3, h4⟩ := hso x l hx y hy
   obtain ⟨u2, h5, h6⟩ := hpx
   rw [h2] at h5
   cases h5
   exact ⟨t, h1, Alv.step k h3 (by rw [h4]) (by rw [h4]; exact h6)⟩) 4000 0 (accL a (theG rs).1 (theG rs).1.length) (acc_ok _) (acc_inq _) (fun k hk => by
   obtain ⟨s, h1, h2⟩ := acc_allp _ k hk
   exact ⟨s, h1, Alv.acc h2⟩) (fun c x l h => by omega) (by omega)
 constructor
 ·
  intro h
  obtain ⟨s2, h1, h2⟩ := r3 i h
  rw [hs] at h1
  cases h1
  exact h2
 ·
  intro h
  induction h generalizing i with
  | acc hc => exact r5 i (acc_has _ i _ (List.getElem?_eq_some_iff.1 hs).1 hs hc)
  | @step s k hk h2 _ ih =>
   have hil := (List.getElem?_eq_some_iff.1 hs).1
   obtain ⟨j, _, hj⟩ := idx_mem (hcl i s hil hs k hk h2)
   have hja := ih hj
   by_cases hne : (stepS rs s k).1 = s
   ·
    have h1 := nodup_idx hok.2.1 hj
    rw [hne, nodup_idx hok.2.1 hs] at h1
    have : i = j := by omega
    rw [this]; exact hja
   ·
    obtain ⟨j2, l, g1, g2, g3⟩ := hco i s hil hs k hk h2 hne
    have h1 := nodup_idx hok.2.1 hj
    rw [nodup_idx hok.2.1 g1] at h1
    have e : j2 = j := by omega
    rw [e] at g2
    obtain ⟨c, hc⟩ := List.getElem?_of_mem (r2 j hja)
    exact r4 c j l (List.getElem?_eq_some_iff.1 hc).1 hc g2 i g3
end Go.Proofs.Ytpkdlljefkbmpaa

/-! The reference of package automaton: Step. -/
namespace Go.Proofs.Ytpkdlljefkbmpaa
open Go.RowKit

theorem quiet_flip {P : Program} {f : Nat} {vs : Array Value} {w : World} {v : Value} (h : Calls P f vs w fun e w' => e = .returned v ∧ w = w') : Calls P f vs w fun e w' => e = .returned v ∧ w' = w := h.mono fun _ _ h => ⟨h.1, h.2.symm⟩
set_option maxRecDepth 10000 in
set_option maxHeartbeats 2000000 in
theorem rStep_any (m a : Int) (A : Option Addr) (n k : Nat) (rs : List Rule) (s : St) (r : Int) (hn : rs.length = n) (hs : s.fits) (hmax : n < 2 ^ 40) (w : World) (hR : Rules w w.heap.size A rs) :
  Calls Try.prog 62 #[.agg #[.int .i64 m, .int .u8 a, .slice A n k], s.val, .int .i64 r] w (StepEnd (stepS rs s r) w) := by
 obtain ⟨mo, la, ne⟩ := s
 have hne := hs.2.2
 have HS := Lib.hid hs
 unfold St.val
 dsimp only at hne ⊢
 obtain ⟨q, hq⟩ : ∃ q, w.heap.size = q := ⟨_, rfl⟩
 have HP := Lib.hid (step_pre w m a A n k mo la ne)
 rw [hq] at HP
 have z0 := HP.out.2.2.1.cell 0
 have z1 := HP.out.2.2.1.cell 1
 have z2 := HP.out.2.2.1.cell 2
 have zf0 := HP.out.2.2.1.free 0
 have zf1 := HP.out.2.2.1.free 1
 have zf2 := HP.out.2.2.1.free 2
 simp only [List.getElem?_toArray, List.getElem?_cons_zero, List.getElem?_cons_succ] at z0 z1 z2
 rw [hq] at hR
 have HR := Lib.hid hR
 have HN := Lib.hid hn
 clear hR hn hs
 by_cases hr0 : r < 0
 ·
  have he := stepS_out (rs := rs) (s := ⟨mo, la, ne⟩) (k := r) (Or.inl hr0)
  rw [he]
  go_enter Try.func62, Try.ntmps62
  go_wp2_with fail
  refine bodyPost_ret (v := .tuple #[St.zero.val, .bool false]) (by simp [results, Try.results62, go_sem, z0, z1, z2]; rfl) rfl ⟨rfl, ?_⟩
  first | exact HP.out.2.2.2.1 | (rw [hq]; exact HP.out.2.2.2.1)
 ·
  by_cases hrn : (n : Int) ≤ r
  ·
   have he := stepS_out (rs := rs) (s := ⟨mo, la, ne⟩) (k := r) (Or.inr (by rw [HN.out]; exact hrn))
   rw [he]
   go_enter Try.func62, Try.ntmps62
   go_wp2_with fail
   refine bodyPost_ret (v := .tuple #[St.zero.val, .bool false]) (by simp [results, Try.results62, go_sem, z0, z1, z2]; rfl) rfl ⟨rfl, ?_⟩
   first | exact HP.out.2.2.2.1 | (rw [hq]; exact HP.out.2.2.2.1)
  ·
   obtain ⟨j, rfl⟩ : ∃ j : Nat, r = (j : Int) := ⟨r.toNat, by omega⟩
   have hj : j < rs.length := by have := HN.out; omega
   obtain ⟨x, hx⟩ : ∃ x, rs[j] = x := ⟨_, rfl⟩
   rw [stepS_at (x := x) (by rw [List.getElem?_eq_getElem hj, hx])]
   obtain ⟨b, o, rfl, hb, hc⟩ := HR.out (by omega)
   have hcj := hc j hj
   rw [hx] at hcj
   obtain ⟨A9, k9, d0, d1, d2, d3, d4, d5, hsq, hfit⟩ := hcj.keep hb HP.out.2.2.2.1
   clear hc hcj hx HR
   have HF := Lib.hid hfit
   obtain ⟨r1, h1⟩ : ∃ r, bitB x.l la = r := ⟨_, rfl⟩
   obtain ⟨r2, h2⟩ : ∃ r, mayB x ne = r := ⟨_, rfl⟩
   have H1 := Lib.hid h1
   have H2 := Lib.hid h2
   have hl : 0 ≤ x.l ∧ x.l < 256 := hfit.2.2.2.1
   clear h1 h2 hsq hfit
   have hjn : (j : Int) < (n : Int) := by omega
   have hj0 : (0 : Int) ≤ (j : Int) := by omega
   have hsp : x.f ≠ mo ∨ x.f = mo := by omega
   rcases hsp with hfm | hfm
   ·
    have he : stepR x ⟨mo, la, ne⟩ = none := by unfold stepR; rw [if_pos (Or.inl hfm)]
    have hfb : (x.f != mo) = true := by rw [bne_iff_ne]; exact hfm
    have HZ : Hid (Blk ((((w.alloc (.cells #[.int .i64 m, .int .u8 a, .slice (some ⟨b, o, none⟩) n k] 30)).alloc (.cells #[.int .i64 mo, .int .i64 la, .int .u8 ne] 47)).alloc (.cells #[.int .i64 0, .int .i64 0, .int .u8 0] 47)).alloc (.cells #[.string x.p, .slice A9 x.c.length k9, .int .u8 x.l, .int .u8 x.r, .int .i64 x.f, .int .i64 x.t] 99)) (q + 1 + 1) 47 #[.int .i64 0, .int .i64 0, .int .u8 0]) := HP.out.2.2.1.box
    have HB4 : Hid (Below q w ((((w.alloc (.cells #[.int .i64 m, .int .u8 a, .slice (some ⟨b, o, none⟩) n k] 30)).alloc (.cells #[.int .i64 mo, .int .i64 la, .int .u8 ne] 47)).alloc (.cells #[.int .i64 0, .int .i64 0, .int .u8 0] 47)).alloc (.cells #[.string x.p, .slice A9 x.c.length k9, .int .u8 x.l, .int .u8 x.r, .int .i64 x.f, .int .i64 x.t] 99))) := HP.out.2.2.2.1.alloc (by have := HP.out.2.2.2.2; omega) _
    have y0 := HZ.out.cell 0
    have y1 := HZ.out.cell 1
    have y2 := HZ.out.cell 2
    simp only [List.getElem?_toArray, List.getElem?_cons_zero, List.getElem?_cons_succ] at y0 y1 y2
    rw [he]
    clear hfm
    go_enter Try.func62, Try.ntmps62
    go_wp2_with fail
    refine bodyPost_ret (v := .tuple #[St.zero.val, .bool false]) (by simp [results, Try.results62, go_sem, y0, y1, y2]; rfl) rfl ⟨rfl, ?_⟩
    first | exact HB4.out | (rw [hq]; exact HB4.out)
   ·
    subst hfm
    have hfb : (x.f != x.f) = false := by simp
    have HZ : Hid (Blk ((((w.alloc (.cells #[.int .i64 m, .int .u8 a, .slice (some ⟨b, o, none⟩) n k] 30)).alloc (.cells #[.int .i64 x.f, .int .i64 la, .int .u8 ne] 47)).alloc (.cells #[.int .i64 0, .int .i64 0, .int .u8 0] 47)).alloc (.cells #[.string x.p, .slice A9 x.c.length k9, .int .u8 x.l, .int .u8 x.r, .int .i64 x.f, .int .i64 x.t] 99)) (q + 1 + 1) 47 #[.int .i64 0, .int .i64 0, .int .u8 0]) := HP.out.2.2.1.box
    have HT : Hid (Blk ((((w.alloc (.cells #[.int .i64 m, .int .u8 a, .slice (some ⟨b, o, none⟩) n k] 30)).alloc (.cells #[.int .i64 x.f, .int .i64 la, .int .u8 ne] 47)).alloc (.cells #[.int .i64 0, .int .i64 0, .int .u8 0] 47)).alloc (.cells #[.string x.p, .slice A9 x.c.length k9, .int .u8 x.l, .int .u8 x.r, .int .i64 x.f, .int .i64 x.t] 99)) (q + 1) 47 #[.int .i64 x.f, .int .i64 la, .int .u8 ne]) := HP.out.2.1.box
    have HX : Hid (Blk ((((w.alloc (.cells #[.int .i64 m, .int .u8 a, .slice (some ⟨b, o, none⟩) n k] 30)).alloc (.cells #[.int .i64 x.f, .int .i64 la, .int .u8 ne] 47)).alloc (.cells #[.int .i64 0, .int .i64 0, .int .u8 0] 47)).alloc (.cells #[.string x.p, .slice A9 x.c.length k9, .int .u8 x.l, .int .u8 x.r, .int .i64 x.f, .int .i64 x.t] 99)) (q + 1 + 1 + 1) 99 #[.string x.p, .slice A9 x.c.length k9, .int .u8 x.l, .int .u8 x.r, .int .i64 x.f, .int .i64 x.t]) := by
     have h := Blk.new (((w.alloc (.cells #[.int .i64 m, .int .u8 a, .slice (some ⟨b, o, none⟩) n k] 30)).alloc (.cells #[.int .i64 x.f, .int .i64 la, .int .u8 ne] 47)).alloc (.cells #[.int .i64 0, .int .i64 0, .int .u8 0] 47)) #[.string x.p, .slice A9 x.c.length k9, .int .u8 x.l, .int .u8 x.r, .int .i64 x.f, .int .i64 x.t] 99
     rw [HP.out.2.2.2.2] at h
     exact h
    have HB4 : Hid (Below q w ((((w.alloc (.cells #[.int .i64 m, .int .u8 a, .slice (some ⟨b, o, none⟩) n k] 30)).alloc (.cells #[.int .i64 x.f, .int .i64 la, .int .u8 ne] 47)).alloc (.cells #[.int .i64 0, .int .i64 0, .int .u8 0] 47)).alloc (.cells #[.string x.p, .slice A9 x.c.length k9, .int .u8 x.l, .int .u8 x.r, .int .i64 x.f, .int .i64 x.t] 99))) := HP.out.2.2.2.1.alloc (by have := HP.out.2.2.2.2; omega) _
    have y0 := HZ.out.cell 0
    have y1 := HZ.out.cell 1
    have y2 := HZ.out.cell 2
    simp only [List.getElem?_toArray, List.getElem?_cons_zero, List.getElem?_cons_succ] at y0 y1 y2
    cases r1
    ·
     have he : stepR x ⟨x.f, la, ne⟩ = none := by unfold stepR; rw [if_pos (Or.inr (Or.inl H1.out))]
     rw [he]
     go_enter Try.func62, Try.ntmps62
     go_wp2_with fail
     refine (rBit_any x.l la hl _).mono ?_
     rintro e w5 ⟨rfl, rfl⟩
     rw [H1.out]
     go_wp2_with fail
     refine bodyPost_ret (v := .tuple #[St.zero.val, .bool false]) (by simp [results, Try.results62, go_sem, y0, y1, y2]; rfl) rfl ⟨rfl, ?_⟩
     first | exact HB4.out | (rw [hq]; exact HB4.out)
    ·
     have x0 := HX.out.cell 0
     have x1 := HX.out.cell 1
     have x2 := HX.out.cell 2
     have x3 := HX.out.cell 3
     have x4 := HX.out.cell 4
     have x5 := HX.out.cell 5
     have t2 := HT.out.cell 2
     simp only [List.getElem?_toArray, List.getElem?_cons_zero, List.getElem?_cons_succ] at x0 x1 x2 x3 x4 x5 t2
     have hs4 : q + 4 = ((((w.alloc (.cells #[.int .i64 m, .int .u8 a, .slice (some ⟨b, o, none⟩) n k] 30)).alloc (.cells #[.int .i64 x.f, .int .i64 la, .int .u8 ne] 47)).alloc (.cells #[.int .i64 0, .int .i64 0, .int .u8 0] 47)).alloc (.cells #[.string x.p, .slice A9 x.c.length k9, .int .u8 x.l, .int .u8 x.r, .int .i64 x.f, .int .i64 x.t] 99)).heap.size := by have := HP.out.2.2.2.2; simp at this ⊢; omega
     obtain ⟨so, hso⟩ : ∃ so, stepR x ⟨x.f, la, ne⟩ = so := ⟨_, rfl⟩
     have HSO := Lib.hid hso
     rw [hso]
     clear hso
     have hp47 := HF.out.1
     have hxr := HF.out.2.2.2.2.1
     clear x0 x1 x2 x3 x4 x5 t2 y0 y1 y2
     have zf := HZ.out.free 0
     have zg := HZ.out.free 1
     have zh := HZ.out.free 2
     go_enter Try.func62, Try.ntmps62
     go_wp2_with fail
     refine (rBit_any x.l la hl _).mono ?_
     rintro e w5 ⟨rfl, rfl⟩
     rw [H1.out]
     generalize ((((w.alloc (.cells #[.int .i64 m, .int .u8 a, .slice (some ⟨b, o, none⟩) n k] 30)).alloc (.cells #[.int .i64 x.f, .int .i64 la, .int .u8 ne] 47)).alloc (.cells #[.int .i64 0, .int .i64 0, .int .u8 0] 47)).alloc (.cells #[.string x.p, .slice A9 x.c.length k9, .int .u8 x.l, .int .u8 x.r, .int .i64 x.f, .int .i64 x.t] 99)) = V at *
     have x0 := HX.out.cell 0
     have x1 := HX.out.cell 1
     have x2 := HX.out.cell 2
     have x3 := HX.out.cell 3
     have x4 := HX.out.cell 4
     have x5 := HX.out.cell 5
     have t0 := HT.out.cell 0
     have t1 := HT.out.cell 1
     have t2 := HT.out.cell 2
     have y0 := HZ.out.cell 0
     have y1 := HZ.out.cell 1
     have y2 := HZ.out.cell 2
     simp only [List.getElem?_toArray, List.getElem?_cons_zero, List.getElem?_cons_succ] at x0 x1 x2 x3 x4 x5 t0 t1 t2 y0 y1 y2
     clear HP z0 z1 z2 zf0 zf1 zf2 d0 d1 d2 d3 d4 d5 hs4
     by_cases h0 : x.p.size = 0
     ·
      have hm : mayB x ne = (bits .and .u8 ne x.r != 0) := by unfold mayB; rw [if_pos h0]
      have h00 : ((x.p.size : Int) == 0) = true := by rw [h0]; rfl
      cases r2
      ·
       have he : so = none := by rw [← HSO.out]; unfold stepR; rw [if_pos (Or.inr (Or.inr H2.out))]
       subst he
       have hz : (bits .and .u8 ne x.r == 0) = true := by
        have := H2.out; rw [hm] at this; simpa using this
       have hE := Lib.hid (st_end (q := q + 1 + 1) (w := w) (V := V) (by rw [hq]; exact HB4.out) (by omega) 0 0 0)
       go_wp2_with fail
       refine bodyPost_ret (v := .tuple #[St.zero.val, .bool false]) (by simp [results, Try.results62, go_sem, y0, y1, y2]; rfl) rfl ⟨rfl, ?_⟩
       exact hE.out
      ·
       have he : so = some (afterS x ⟨x.f, la, ne⟩) := by
        rw [← HSO.out]; unfold stepR
        rw [if_neg (by rintro (h | h | h); exact h rfl; exact absurd (H1.out.symm.trans h) (by decide); exact absurd (H2.out.symm.trans h) (by decide))]
       subst he
       have hz : (bits .and .u8 ne x.r == 0) = false := by
        have := H2.out; rw [hm] at this; simpa using this
       have haf : afterS x ⟨x.f, la, ne⟩ = ⟨x.t, la, bits .and .u8 ne x.r⟩ := by unfold afterS; rw [if_pos h0]
       have hE := Lib.hid (st_end (q := q + 1 + 1) (w := w) (V := V) (by rw [hq]; exact HB4.out) (by omega) x.t la (bits .and .u8 ne x.r))
       go_wp2_with fail
       refine bodyPost_ret (v := .tuple #[.agg #[.int .i64 x.t, .int .i64 la, .int .u8 (bits .and .u8 ne x.r)], .bool true]) (by simp [results, Try.results62, go_sem, y0, y1, y2]) rfl ⟨rfl, ?_⟩
       exact hE.out
     ·
      have h00 : ((x.p.size : Int) == 0) = false := by rw [beq_eq_false_iff_ne]; omega
      have hm : mayB x ne = bitB ne (clsI (byteI x.p 0)) := by unfold mayB; rw [if_neg h0]
      have hlt : 0 < x.p.size := by omega
      go_upto_region 10 with fail
      have hby : ((x.p[0]'hlt).toNat : Int) = byteI x.p 0 := by
       unfold byteI
       rw [List.getD_eq_getElem?_getD, bytes_at x.p 0 hlt]; rfl
      have hb0 : 0 ≤ byteI x.p 0 ∧ byteI x.p 0 < 256 := by
       rw [← hby]; have := (x.p[0]'hlt).toNat_lt; omega
      have hr2 : bitB ne (clsI (byteI x.p 0)) = r2 := hm.symm.trans H2.out
      have hc1 := fun W => quiet_flip (rClass_any (byteI x.p 0) hb0.1 hb0.2 W)
      have hc2 := fun W => quiet_flip (rBit_any ne (clsI (byteI x.p 0)) hne W)
      rw [hr2] at hc2
      go_quiet (first | (go_at_call 81; refine Calls.quiet_of_same (hc1 _)) | (go_at_call 82; refine Calls.quiet_of_same (hc2 _)))
      cases r2
      ·
       have he : so = none := by rw [← HSO.out]; unfold stepR; rw [if_pos (Or.inr (Or.inr H2.out))]
       subst he
       have hE := Lib.hid (st_end (q := q + 1 + 1) (w := w) (V := V.drewN nq) (by rw [hq]; exact below_dN HB4.out) (by omega) 0 0 0)
       go_wp2_with fail
       refine bodyPost_ret (v := .tuple #[St.zero.val, .bool false]) (by simp [results, Try.results62, go_sem, y0, y1, y2]; rfl) rfl ⟨rfl, ?_⟩
       exact hE.out
      ·
       have he : so = some (afterS x ⟨x.f, la, ne⟩) := by
        rw [← HSO.out]; unfold stepR
        rw [if_neg (by rintro (h | h | h); exact h rfl; exact absurd (H1.out.symm.trans h) (by decide); exact absurd (H2.out.symm.trans h) (by decide))]
       subst he
       have haf : afterS x ⟨x.f, la, ne⟩ = ⟨x.t, clsI (byteI x.p (x.p.size - 1)), x.r⟩ := by unfold afterS; rw [if_neg h0]
       have HAF := Lib.hid haf
       obtain ⟨n1, hn1⟩ : ∃ n1, x.p.size - 1 = n1 := ⟨_, rfl⟩
       rw [hn1] at haf HAF
       have hn1l : n1 < x.p.size := by omega
       have hn1i : (x.p.size : Int) - 1 = (n1 : Int) := by omega
       have hby1 : ((x.p[n1]'hn1l).toNat : Int) = byteI x.p n1 := by
        unfold byteI
        rw [List.getD_eq_getElem?_getD, bytes_at x.p n1 hn1l]; rfl
       have hb1 : 0 ≤ byteI x.p n1 ∧ byteI x.p n1 < 256 := by
        rw [← hby1]; have := (x.p[n1]'hn1l).toNat_lt; omega
       have hc3 := fun W => quiet_flip (rClass_any (byteI x.p n1) hb1.1 hb1.2 W)
       clear haf
       go_upto_region 12 with fail
       have HXn : Hid (Blk (V.drewN nq) (q + 1 + 1 + 1) 99 #[.string x.p, .slice A9 x.c.length k9, .int .u8 x.l, .int .u8 x.r, .int .i64 x.f, .int .i64 x.t]) := HX.out
       have HZn : Hid (Blk (V.drewN nq) (q + 1 + 1) 47 #[.int .i64 0, .int .i64 0, .int .u8 0]) := HZ.out
       have HBn : Hid (Below q w (V.drewN nq)) := below_dN HB4.out
       clear x0 x1 x2 x3 x4 x5 y0 y1 y2 t0 t1 t2 zf zg zh HX HZ HB4 HT
       generalize V.drewN nq = U at *
       have x0 := HXn.out.cell 0
       have x3 := HXn.out.cell 3
       have x5 := HXn.out.cell 5
       simp only [List.getElem?_toArray, List.getElem?_cons_zero, List.getElem?_cons_succ] at x0 x3 x5
       have hwn : IntKind.i64.wrap (n1 : Int) = (n1 : Int) := IntWalk.i64_in _ (by omega)
       have hlX := HXn.out.lt
       have hlZ := HZn.out.lt
       refine wp_region_head 13 1 (by kernel_rfl) (fun y => (.agg #[.int .i64 m, .int .u8 a, .slice (some ⟨b, o, none⟩) n k]) :: (.agg #[.int .i64 x.f, .int .i64 la, .int .u8 ne]) :: (.int .i64 ↑j) :: (.pointer (some ⟨q, 0, none⟩)) :: (.pointer (some ⟨q + 1, 0, none⟩)) :: undef :: (.pointer (some ⟨q + 1 + 1, 0, none⟩)) :: (.bool false) :: (.pointer (some ⟨q + 1 + 1 + 1, 0, none⟩)) :: (.int .i64 ↑j) :: (.bool false) :: (.bool false) :: (.int .i64 ↑j) :: (.pointer (some ⟨q, 2, none⟩)) :: (.slice (some ⟨b, o, none⟩) n k) :: (.int .i64 ↑n) :: (.bool false) :: (.bool false) :: undef :: (.pointer (some ⟨q, 2, none⟩)) :: (.slice (some ⟨b, o, none⟩) n k) :: (.int .i64 ↑j) :: (.pointer (some ⟨b, o + j * 6, none⟩)) :: (.agg #[Value.string x.p, .slice A9 x.c.length k9, .int .u8 x.l, .int .u8 x.r, .int .i64 x.f, .int .i64 x.t]) :: (.pointer (some ⟨q + 1 + 1 + 1, 4, none⟩)) :: (.int .i64 x.f) :: (.pointer (some ⟨q + 1, 0, none⟩)) :: (.int .i64 x.f) :: (.bool false) :: (.bool false) :: (.pointer (some ⟨q + 1 + 1 + 1, 2, none⟩)) :: (.int .u8 x.l) :: (.pointer (some ⟨q + 1, 1, none⟩)) :: (.int .i64 la) :: (.bool true) :: (.bool false) :: (.bool false) :: undef :: (.pointer (some ⟨q + 1 + 1 + 1, 0, none⟩)) :: (.string x.p) :: (.int .i64 ↑x.p.size) :: (.bool false) :: (.bool false) :: undef :: undef :: undef :: undef :: undef :: undef :: (.bool false) :: undef :: (.pointer (some ⟨q + 1 + 1 + 1, 0, none⟩)) :: (.string x.p) :: (.int .i64 ↑x.p.size) :: (.bool false) :: undef :: undef :: undef :: undef :: undef :: undef :: undef :: undef :: undef :: undef :: (.pointer (some ⟨q + 1, 2, none⟩)) :: (.int .u8 ne) :: (.pointer (some ⟨q + 1 + 1 + 1, 0, none⟩)) :: (.string x.p) :: (.int .u8 (byteI x.p 0)) :: (.int .i64 (clsI (byteI x.p 0))) :: (.bool true) :: (.bool !true) :: undef :: y 0 :: y 1 :: y 2 :: y 3 :: y 4 :: y 5 :: y 6 :: y 7 :: y 8 :: y 9 :: y 10 :: y 11 :: y 12 :: [])
        (fun _ w' => Below U.heap.size U w') (phiAf (q + 1 + 1 + 1) x n1) (fun _ => undef)
        (by kernel_rfl) (by kernel_rfl) (by kernel_rfl) (by kernel_rfl) ?_ (Below.refl _ _).drew [0, 1, 2, 3, 4, 5, 6, 7, 8, 9, 10, 11, 12] (by kernel_rfl) ?_ ?_
       ·
        intro j v w1 w2 h hb
        exact h
       ·
        refine allCons ?_ (allCons ?_ (allCons ?_ (allCons ?_ (allCons ?_ (allCons ?_ (allCons ?_ (allCons ?_ (allCons ?_ (allCons ?_ (allCons ?_ (allCons ?_ (allCons ?_ allNil))))))))))))
        all_goals intro y w10 K hS hd hK
        ·
         refine wpOp_step rfl (fun K2 hK2 => ?_)
         go_simp
         exact hK2 _ _ (hK _ _ hS rfl (Below.refl _ _))
        ·
         have e0 : y 0 = _ := hd 0 rfl
         obtain ⟨y, rfl⟩ := upd_at (y := y) (i := 0) e0
         dsimp [upd]
         have cc := (hS.cell (p := ⟨q + 1 + 1 + 1, 5, none⟩) hlX).trans x5
         refine wpOp_step rfl (fun K2 hK2 => ?_)
         go_simp
         exact hK2 _ _ (hK _ _ hS rfl (Below.refl _ _))
        ·
         refine wpOp_step rfl (fun K2 hK2 => ?_)
         go_simp
         exact hK2 _ _ (hK _ _ hS rfl (Below.refl _ _))
        ·
         have e2 : y 2 = _ := hd 2 rfl
         obtain ⟨y, rfl⟩ := upd_at (y := y) (i := 2) e2
         dsimp [upd]
         have cc := (hS.cell (p := ⟨q + 1 + 1 + 1, 0, none⟩) hlX).trans x0
         refine wpOp_step rfl (fun K2 hK2 => ?_)
         go_simp
         exact hK2 _ _ (hK _ _ hS rfl (Below.refl _ _))
        ·
         refine wpOp_step rfl (fun K2 hK2 => ?_)
         go_simp
         exact hK2 _ _ (hK _ _ hS rfl (Below.refl _ _))
        ·
         have e4 : y 4 = _ := hd 4 rfl
         obtain ⟨y, rfl⟩ := upd_at (y := y) (i := 4) e4
         dsimp [upd]
         have cc := (hS.cell (p := ⟨q + 1 + 1 + 1, 0, none⟩) hlX).trans x0
         refine wpOp_step rfl (fun K2 hK2 => ?_)
         go_simp
         exact hK2 _ _ (hK _ _ hS rfl (Below.refl _ _))
        ·
         have e5 : y 5 = _ := hd 5 rfl
         obtain ⟨y, rfl⟩ := upd_at (y := y) (i := 5) e5
         dsimp [upd]
         refine wpOp_step rfl (fun K2 hK2 => ?_)
         go_simp
         exact hK2 _ _ (hK _ _ hS rfl (Below.refl _ _))
        ·
         have e6 : y 6 = _ := hd 6 rfl
         obtain ⟨y, rfl⟩ := upd_at (y := y) (i := 6) e6
         dsimp [upd]
         refine wpOp_step rfl (fun K2 hK2 => ?_)
         go_simp
         exact hK2 _ _ (hK _ _ hS rfl (Below.refl _ _))
        ·
         have e3 : y 3 = _ := hd 3 rfl
         have e7 : y 7 = _ := hd 7 rfl
         obtain ⟨y, rfl⟩ := upd_at (y := y) (i := 3) e3
         obtain ⟨y, rfl⟩ := upd_at (y := y) (i := 7) e7
         dsimp [upd]
         refine wpOp_step rfl (fun K2 hK2 => ?_)
         go_simp
         exact hK2 _ _ (hK _ _ hS rfl (Below.refl _ _))
        ·
         have e8 : y 8 = _ := hd 8 rfl
         obtain ⟨y, rfl⟩ := upd_at (y := y) (i := 8) e8
         dsimp [upd]
         refine wpOp_step rfl (fun K2 hK2 => ?_)
         go_simp
         refine (rClass_any _ hb1.1 hb1.2 _).mono ?_
         rintro e w1 ⟨rfl, rfl⟩
         exact hK2 _ _ (hK _ _ hS rfl (Below.refl _ _))
        ·
         refine wpOp_step rfl (fun K2 hK2 => ?_)
         go_simp
         exact hK2 _ _ (hK _ _ hS rfl (Below.refl _ _))
        ·
         have e10 : y 10 = _ := hd 10 rfl
         obtain ⟨y, rfl⟩ := upd_at (y := y) (i := 10) e10
         dsimp [upd]
         have cc := (hS.cell (p := ⟨q + 1 + 1 + 1, 3, none⟩) hlX).trans x3
         refine wpOp_step rfl (fun K2 hK2 => ?_)
         go_simp
         exact hK2 _ _ (hK _ _ hS rfl (Below.refl _ _))
        ·
         have e1 : y 1 = _ := hd 1 rfl
         have e9 : y 9 = _ := hd 9 rfl
         have e11 : y 11 = _ := hd 11 rfl
         obtain ⟨y, rfl⟩ := upd_at (y := y) (i := 1) e1
         obtain ⟨y, rfl⟩ := upd_at (y := y) (i := 9) e9
         obtain ⟨y, rfl⟩ := upd_at (y := y) (i := 11) e11
         dsimp [upd]
         refine wpOp_step rfl (fun K2 hK2 => ?_)
         go_simp
         exact hK2 _ _ (hK _ _ hS rfl (Below.refl _ _))
       ·
        intro y w10 f hS hd
        have e12 : y 12 = _ := hd 12 (by decide)
        clear hd
        obtain ⟨y, rfl⟩ := upd_at (y := y) (i := 12) e12
        dsimp [upd]
        have hZ2 := HZn.out.keep hS hlZ
        have z0 := hZ2.cell 0
        have z1 := hZ2.cell 1
        have z2 := hZ2.cell 2
        have f0 := hZ2.free 0
        have f1 := hZ2.free 1
        have f2 := hZ2.free 2
        simp only [List.getElem?_toArray, List.getElem?_cons_zero, List.getElem?_cons_succ] at z0 z1 z2
        refine wpAny_one (i := 13) (by kernel_rfl) ?_
        refine wpOp_step rfl (fun K2 hK2 => ?_)
        go_simp
        refine hK2 _ _ ?_
        clear hK2 K2
        refine wpAny_one (i := 14) (by kernel_rfl) ?_
        refine wpOp_step rfl (fun K2 hK2 => ?_)
        go_simp
        refine hK2 _ _ ?_
        clear hK2 K2
        refine wpAny_done (by kernel_rfl) ?_ _
        have hE := st_end (q := q + 1 + 1) (w := w) (V := w10) (by rw [hq]; exact HBn.out.trans (hS.mono (by omega))) (by omega) x.t (clsI (byteI x.p n1)) x.r
        go_wp2_with fail
        refine bodyPost_ret (v := .tuple #[.agg #[.int .i64 x.t, .int .i64 (clsI (byteI x.p n1)), .int .u8 x.r], .bool true]) (by simp [results, Try.results62, go_sem, z0, z1, z2]) rfl ⟨by dsimp only; rw [HAF.out]; rfl, ?_⟩
        exact hE
end Go.Proofs.Ytpkdlljefkbmpaa

/-! As Inv6's law; each operation is told besides that those it waits for have been. And the region of 'next, is := Step(t, l[i], k)'. -/
namespace Go.Proofs.Ytpkdlljefkbmpaa
open Go.RowKit

theorem wp_region_mid2 {P : Program} {id : Nat} {ops : Array Oper} {Q : Exit → Act → World → Prop} {d : List Deferred} {w0 : World} (N k : Nat) (hm : P.follows .mixedOrders = true)
  (slots : (Nat → Value) → List Value) (S : (Nat → Bool) → (Nat → Value) → World → Prop) (φ : Nat → Value → World → Prop) (y0 : Nat → Value)
  (hsz : ops.size = N + (k + 1))
  (hac : (List.range ops.size).all (fun i => (depsOf ops i).all (· < i)) = true)
  (hcov : (List.range N).all (fun i => (List.range (N + 1)).any fun k => decide (i < k) && (depsOf ops k).contains i) = true)
  (hlast : (List.range k).all (fun j => (depsOf ops (N + 1 + j)).contains N) = true)
  (hS : S (fun _ => false) y0 w0.drew)
  (rs : List Nat) (hrs : List.range N = rs)
  (hop : ∀ i ∈ rs, ∀ (b : Nat → Bool) (y : Nat → Value) (w : World) (K : Act → World → Prop), b i = false → S b y w → (∀ j, (depsOf ops i).contains j = true → b j = true ∧ φ j (y j) w) →
   (∀ v w', S (fun j => if j = i then true else b j) (upd y i v) w' → φ i v w' → (∀ j, j < N → φ j (y j) w → φ j (y j) w') → K ⟨(slots (upd y i v)).toArray, d⟩ w') → wpOp P ops Q i K ⟨(slots y).toArray, d⟩ w)
  (hend : ∀ (b : Nat → Bool) (y : Nat → Value) (w : World) (f : Nat), (∀ i, i < N → b i = true) → S b y w → (∀ i, i < N → φ i (y i) w) → wpAny P .any ops Q (f + (k + 1)) (frontL (N + (k + 1)) N) ⟨(slots y).toArray, d⟩ w) :
  (Code.region id ops true).wp P Q ⟨(slots y0).toArray, d⟩ w0 := by
 have hlt : ∀ i, i < ops.size → ∀ j, (depsOf ops i).contains j = true → j < i := by
  intro i hi j hj
  have h1 := List.all_eq_true.1 hac i (List.mem_range.2 hi)
  simpa using List.all_eq_true.1 h1 j (by simpa using hj)
 have hacE : ∀ (i : Nat) (o : Oper), ops[i]? = some o → ∀ e ∈ o.after, Region.binds .any e = true → e.on < i := by
  intro i o ho e he hb
  exact hlt i (Array.getElem?_eq_some_iff.1 ho).1 _ (mem_deps ho he hb)
 refine wp_region_any hm ?_
 have main : ∀ (fuel : Nat) (listed : Array Bool) (a : Act) (w : World), listed.size = ops.size → (∀ i, N ≤ i → listed.getD i false = false) → ClosedB ops (fun j => listed.getD j false) →
   (∃ y, a = ⟨(slots y).toArray, d⟩ ∧ S (fun j => listed.getD j false) y w ∧ ∀ i, i < N → listed.getD i false = true → φ i (y i) w) → listed.toList.count false ≤ fuel → wpAny P .any ops Q fuel listed a w := by
  intro fuel
  induction fuel with
  | zero =>
   intro listed a w hs hN hcl _ hcnt
   exfalso
   have h0 := hN N (Nat.le_refl _)
   have hNlt : N < listed.size := by omega
   have hpos : 0 < listed.toList.count false := by
    rw [List.count_pos_iff]
    have : listed.toList[N]'(by simpa using hNlt) = false := by simpa [hNlt] using h0
    rw [← this]; exact List.getElem_mem _
   omega
  | succ fuel ih =>
   intro listed a w hs hN hcl hy hcnt
   by_cases hall : ∀ i, i < N → listed.getD i false = true
   ·
    obtain ⟨y, rfl, hSw, hφ⟩ := hy
    have hl := frontL_eq hs hall hN
    have hc2 := frontL_count (n := N + (k + 1)) (N := N) (by omega)
    rw [hsz] at hl
    rw [hl, hc2] at hcnt
    rw [hl]
    have hf : fuel + 1 = (fuel - k) + (k + 1) := by omega
    rw [hf]
    exact hend _ y w _ hall hSw (fun i hi => hφ i hi (hall i hi))
   ·
    refine ⟨fun hr => absurd (fun i hi => ready_nil hacE hs hr i (by omega)) hall, fun i hi => ?_⟩
    obtain ⟨h0, o, ho, hd⟩ := mem_ready.1 hi
    have hisz : i < ops.size := (Array.getElem?_eq_some_iff.1 ho).1
    have hbi : listed.getD i false = false := by simpa [show i < listed.size by omega] using h0
    have hd' : ∀ o', ops[i]? = some o' → ∀ e ∈ o'.after, Region.binds .any e = true → listed.getD e.on false = true := fun o' ho' e he hb => by rw [ho] at ho'; cases ho'; exact hd e he hb
    have hiN : i < N := by
     rcases Nat.lt_or_ge i N with g | g
     ·
      exact g
     ·
      exfalso
      by_cases hie : i = N
      ·
       subst hie
       exact hall (covered (by omega) hcov hcl (fun j hj => of_deps (b := fun j => listed.getD j false) hisz hd' hj))
      ·
       have hc := List.all_eq_true.1 hlast (i - (N + 1)) (List.mem_range.2 (by omega))
       rw [show N + 1 + (i - (N + 1)) = i by omega] at hc
       have := of_deps (b := fun j => listed.getD j false) hisz hd' hc
       have h2 := hN N (Nat.le_refl _)
       rw [h2] at this; cases this
    obtain ⟨y, rfl, hSw, hφ⟩ := hy
    have hcs := count_set_lt (listed := listed) (i := i) (by omega) h0
    have e : ∀ j, (listed.setIfInBounds i true).getD j false = if j = i then true else listed.getD j false := by
     intro j
     by_cases hj : j = i
     ·
      subst hj; simp [show j < listed.size by omega]
     ·
      rw [getD_set_ne false (Ne.symm hj), if_neg hj]
    have hcl' : ClosedB ops (fun j => (listed.setIfInBounds i true).getD j false) := by
     intro q hq hbq j hj
     simp only [e] at hbq ⊢
     by_cases hji : j = i
     ·
      simp [hji]
     ·
      rw [if_neg hji]
      by_cases hqi : q = i
      ·
       subst hqi; exact of_deps (b := fun j => listed.getD j false) hisz hd' hj
      ·
       rw [if_neg hqi] at hbq; exact hcl q hq hbq j hj
    refine hop i (by rw [← hrs]; exact List.mem_range.2 hiN) (fun j => listed.getD j false) y w _ hbi hSw (fun j hj => ⟨of_deps (b := fun j => listed.getD j false) hisz hd' hj, hφ j (by have := hlt i hisz j hj; omega) (of_deps (b := fun j => listed.getD j false) hisz hd' hj)⟩) (fun v w' hS' hv hb' => ?_)
    refine ih _ _ _ (by simpa using hs) (fun j hj => by rw [e, if_neg (by omega)]; exact hN j hj) hcl' ⟨upd y i v, rfl, by have e2 : (fun j => (listed.setIfInBounds i true).getD j false) = fun j => if j = i then true else listed.getD j false := funext e; rw [e2]; exact hS', fun j hjN hj => ?_⟩ (by omega)
    by_cases hji : j = i
    ·
     subst hji
     have : upd y j v j = v := by simp [upd]
     rw [this]; exact hv
    ·
     have : upd y i v j = y j := by simp [upd, hji]
     rw [this]
     rw [e, if_neg hji] at hj
     exact hb' j hjN (hφ j hjN hj)
 have hg0 : ∀ i, (Array.replicate ops.size false).getD i false = false := by
  intro i
  by_cases h : i < ops.size <;> simp [h]
 exact main _ _ _ _ (by simp) (fun i _ => hg0 i) (fun i _ hb => by simp only [hg0] at hb; cases hb) ⟨y0, rfl, by have e2 : (fun j => (Array.replicate ops.size false).getD j false) = fun _ => false := funext hg0; rw [e2]; exact hS, fun i _ hb => by rw [hg0] at hb; cases hb⟩ (by simp)

def phiS (V : World) (T L I P SV KV : Value) (r : St × Bool) (i : Nat) (v : Value) (w : World) : Prop := match i with
 | 0 => v = T
 | 1 => v = L
 | 2 => v = I
 | 3 => v = P
 | 4 => v = SV
 | 5 => v = KV
 | 6 => v = .tuple #[r.1.val, .bool r.2]
 | 7 => v = .tuple #[r.1.val, .bool r.2]
 | 8 => v = r.1.val
 | 9 => v = .bool r.2
 | 10 => ∃ g, v = .pointer (some ⟨g, 0, none⟩) ∧ V.heap.size ≤ g ∧ ∃ a b c, Blk w g 47 #[a, b, c]
 | _ => True
theorem phiS_keep {V w w' : World} {T L I P SV KV : Value} {r : St × Bool} (hw : ∀ g a b c, V.heap.size ≤ g → Blk w g 47 #[a, b, c] → ∃ a b c, Blk w' g 47 #[a, b, c]) : ∀ {i : Nat} {v : Value}, phiS V T L I P SV KV r i v w → phiS V T L I P SV KV r i v w'
 | 0, _, h => h
 | 1, _, h => h
 | 2, _, h => h
 | 3, _, h => h
 | 4, _, h => h
 | 5, _, h => h
 | 6, _, h => h
 | 7, _, h => h
 | 8, _, h => h
 | 9, _, h => h
 | 10, _, ⟨g, e, hg, a, b, c, h⟩ => ⟨g, e, hg, hw g a b c hg h⟩
 | _ + 11, _, _ => trivial
theorem phiS_below {V w w' : World} {T L I P SV KV : Value} {r : St × Bool} {i : Nat} {v : Value} (hb : Below w.heap.size w w') (h : phiS V T L I P SV KV r i v w) : phiS V T L I P SV KV r i v w' :=
 phiS_keep (fun _ a b c _ h => ⟨a, b, c, h.keep hb h.lt⟩) h
def stS (V : World) (s : St) (b : Nat → Bool) (y : Nat → Value) (w : World) : Prop :=
 Below V.heap.size V w ∧ (b 11 = true → b 10 = true ∧ ∃ g, y 10 = .pointer (some ⟨g, 0, none⟩) ∧ V.heap.size ≤ g ∧ Blk w g 47 #[.int .i64 s.mode, .int .i64 s.last, .int .u8 s.need])
theorem stS_same {V w w' : World} {s : St} {b : Nat → Bool} {y : Nat → Value} {i : Nat} {v : Value} (h : stS V s b y w) (hi : i ≠ 10 ∧ i ≠ 11) (hb : Below w.heap.size w w') : stS V s (fun j => if j = i then true else b j) (upd y i v) w' := by
 refine ⟨h.1.trans (hb.mono h.1.size), fun h7 => ?_⟩
 have h7' : b 11 = true := by simpa [Ne.symm hi.2] using h7
 obtain ⟨h6, g, e, hg, hB⟩ := h.2 h7'
 refine ⟨by simp [h6], g, ?_, hg, hB.keep hb hB.lt⟩
 unfold upd; rw [if_neg (Ne.symm hi.1)]; exact e
theorem stS_alloc {V w : World} {s : St} {b : Nat → Bool} {y : Nat → Value} {v : Value} (h : stS V s b y w) (hb : b 10 = false) (o : Obj) : stS V s (fun j => if j = 10 then true else b j) (upd y 10 v) (w.alloc o) := by
 refine ⟨h.1.alloc h.1.size _, fun h7 => ?_⟩
 have h7' : b 11 = true := by simpa using h7
 have := (h.2 h7').1
 rw [hb] at this; cases this
theorem stS_store {V w : World} {s : St} {b : Nat → Bool} {y : Nat → Value} {v a a2 a3 : Value} {g : Nat} (h : stS V s b y w) (hb : b 10 = true) (e : y 10 = .pointer (some ⟨g, 0, none⟩)) (hg : V.heap.size ≤ g) (hB : Blk w g 47 #[a, a2, a3]) :
  stS V s (fun j => if j = 11 then true else b j) (upd y 11 v) (((w.setCell ⟨g, 0, none⟩ (.int .i64 s.mode)).setCell ⟨g, 1, none⟩ (.int .i64 s.last)).setCell ⟨g, 2, none⟩ (.int .u8 s.need)) := by
 refine ⟨((h.1.setCell hg _).setCell hg _).setCell hg _, fun _ => ⟨by simp [hb], g, ?_, hg, ((hB.set 0 _).set 1 _).set 2 _⟩⟩
 unfold upd; rw [if_neg (by decide)]; exact e
theorem phiS_store {V w : World} {T L I P SV KV : Value} {r : St × Bool} {i g : Nat} {v a b c : Value} (h : phiS V T L I P SV KV r i v w) : phiS V T L I P SV KV r i v (((w.setCell ⟨g, 0, none⟩ a).setCell ⟨g, 1, none⟩ b).setCell ⟨g, 2, none⟩ c) := by
 refine phiS_keep (fun g' x y z _ hc => ?_) h
 by_cases hgg : g' = g
 ·
  subst hgg
  exact ⟨_, _, _, ((hc.set 0 a).set 1 b).set 2 c⟩
 ·
  exact ⟨x, y, z, ((Below.heap_setCell _ _ _ _ hgg).trans ((Below.heap_setCell _ _ _ _ hgg).trans (Below.heap_setCell _ _ _ _ hgg))).trans hc⟩
end Go.Proofs.Ytpkdlljefkbmpaa
