/- Package table: formatPrint, formatCells. -/
import Derived.Test.YtiedaongfjcbhabGreatDoorLaid
import Derived.Test.YtiedaongfjcbhabGreatDoorTab7
import Derived.StillTailTactics
import Derived.OwnWalk
import Derived.Lib.Join
namespace Go.Proofs.YtiedaongfjcbhabGreatDoor
open Go.RowKit

def toU (l : List Int) : List UInt8 := l.map fun n => UInt8.ofNat n.toNat
theorem strOf_toU (l : List Int) : strOf l = strU (toU l) := rfl
def hexL : List Nat := [48, 49, 50, 51, 52, 53, 54, 55, 56, 57, 97, 98, 99, 100, 101, 102]
def hexB : ByteArray := ⟨#[48, 49, 50, 51, 52, 53, 54, 55, 56, 57, 97, 98, 99, 100, 101, 102]⟩
def hexI (d : Nat) : Int := (hexL.getD d 0 : Nat)
/-- Two digits for each byte. -/
def hexes (l : List Nat) : List Int := l.flatMap fun b => [hexI (b / 16), hexI (b % 16)]
def fmtPrint (l : List Nat) : List Int := if l = [] then [46] else hexes l
theorem hexes_len (l : List Nat) : (hexes l).length = 2 * l.length := by
  induction l with
  | nil => rfl
  | cons a r ih => unfold hexes at *; rw [List.flatMap_cons, List.length_append, ih]; simp; omega
theorem hexes_snoc {l : List Nat} {j x : Nat} (h : l[j]? = some x) : hexes (l.take (j + 1)) = hexes (l.take j) ++ [hexI (x / 16), hexI (x % 16)] := by
  have hj : j < l.length := by
    rcases Nat.lt_or_ge j l.length with g | g
    · exact g
    · rw [List.getElem?_eq_none g] at h; cases h
  rw [List.getElem?_eq_getElem hj] at h
  injection h with h
  rw [List.take_succ_eq_append_getElem hj, h]
  unfold hexes
  rw [List.flatMap_append]; rfl
theorem hexB_size : hexB.size = 16 := by decide
theorem hexB_get (k : Nat) (h : k < hexB.size) : (((hexB[k]'h).toNat : Nat) : Int) = hexI k := by
  have e : hexB.data.toList.map UInt8.toNat = hexL := by decide
  unfold hexI
  rw [← e, List.getD_eq_getElem?_getD, List.getElem?_map]
  have : hexB.data.toList[k]? = some (hexB[k]'h) := by
    rw [List.getElem?_eq_getElem (by simpa using h)]; rfl
  rw [this]; rfl
theorem hex_at (i : Int) (k : Nat) (hi : i = k) (h : i.toNat < (⟨#[48, 49, 50, 51, 52, 53, 54, 55, 56, 57, 97, 98, 99, 100, 101, 102]⟩ : ByteArray).size) : ((((⟨#[48, 49, 50, 51, 52, 53, 54, 55, 56, 57, 97, 98, 99, 100, 101, 102]⟩ : ByteArray)[i.toNat]'h).toNat : Nat) : Int) = hexI k := by
  subst hi; exact hexB_get k h
set_option maxRecDepth 10000 in
theorem low_byte (b : Int) (h0 : 0 ≤ b) (hb : b < 256) : bits .and .u8 b 15 = b % 16 := by
  have h := allB_int (n := 256) (p := fun b => decide (bits .and .u8 (b : Int) 15 = (b : Int) % 16)) (by decide +kernel) b h0 hb
  rw [show ((b.toNat : Nat) : Int) = b from by omega] at h
  exact of_decide_eq_true h
theorem add_zero_addr (b j : Nat) : (⟨b, 0, none⟩ : Addr).add j = ⟨b, j, none⟩ := by unfold Addr.add; split <;> simp_all
/-- The cells of a block that a literal has just made. -/
theorem cells_lit_new (w : World) (cs : List Value) (t : TypeId) : ∀ (j : Nat) (u : Value), cs[j]? = some u → (w.alloc (.cells cs.toArray t)).cell? ((⟨w.heap.size, 0, none⟩ : Addr).add j) = some u := fun j u h => by
  rw [add_zero_addr, cell_of_row _ _ _ _ _ _ (Go.heap_alloc_new _ _)]
  simpa using h
section
variable {P : Program} {ops : Array Oper}
/-- append onto a row of the call's own, as one step of a region that draws. -/
theorem step_append_own {w : World} {o : Oper} {a : Act} {K : Act → World → Prop} {Q : Exit → Act → World → Prop} {E : Prop} (hgd : o.guard = none) (s x : Operand) (t : TypeId)
    (ho : o.op = .call { callee := .builtin .append, args := #[s, x], argTypes := #[t, t] })
    (base : Nat) (e : TypeId) (i : TypeInfo) (z : Value) (size bytes : Nat) (ht : P.underlying t = some (.slice e)) (hi : P.info? e = some i) (hz : i.zero = some z)
    (hsize : i.size = size) (hby : i.bytes = bytes) (hzs : z.cells.size = size) (hsz : 0 < size)
    (v : Value) (n : Nat) (xs : List Value) (hs : a.eval s = v) (hown : w.ownsRow base e size v n xs)
    (ad : Addr) (m c : Nat) (news : List Value) (hx : a.eval x = .slice (some ad) m c) (hl : news.length = m * size) (hnews : ∀ j u, news[j]? = some u → w.cell? (ad.add j) = some u) (h1 : ∀ u ∈ news, u.oneCell' = true)
    (h63 : n + m ≤ maxLen) (hbytes : (n + m) * bytes ≤ 140737488355328) (hbase : base ≤ w.heap.size)
    (h : ∀ v' w', w'.ownsRow base e size v' (n + m) (xs ++ news) → w.grownBy w' v.ownBlock → K (a.put o.dst v') w') :
    if Region.wanted o (yielded ops a.tmps) = true then Oper.wp P o a w K Q else E := by
  have hw : Region.wanted o (yielded ops a.tmps) = true := by simp [Region.wanted, hgd]
  rw [if_pos hw]
  exact wp_append_own w s x t ho base e i z size bytes ht hi hz hsize hby hzs hsz v n xs hs hown ad m c news hx hl hnews h1 h63 hbytes hbase fun v' w' h2 h3 _ => h v' w' h2 h3
end
set_option maxRecDepth 10000 in
set_option maxHeartbeats 1000000 in
theorem formatPrint_any (s : ByteArray) (w : World) (hmax : s.size < 2 ^ 40) :
    Calls Tryz.prog 40 #[.string s] w fun e w' => e = .returned (.string (strOf (fmtPrint (bytes s)))) ∧ Below w.heap.size w w' := by
  obtain ⟨i0, hi, hz0, hz1, hz2⟩ := info_parts info_u8
  by_cases h0 : s.size = 0
  · have hb : bytes s = [] := List.eq_nil_of_length_eq_zero (by rw [bytes_len, h0])
    have HB := Lib.hid hb
    have he : s.toList.isEmpty = true := by rw [ByteArray.toList_eq, List.isEmpty_iff]; unfold bytes at hb; simpa using hb
    clear hb h0
    go_enter Tryz.func40, Tryz.ntmps40
    go_wp2
    go_ret
    exact ⟨by rw [HB.out]; rfl, Below.refl _ _⟩
  · have hne : ¬ bytes s = [] := fun e => by have := bytes_len s; rw [e] at this; simp at this; omega
    have he : s.toList.isEmpty = false := by
      rw [Bool.eq_false_iff, ByteArray.toList_eq]; intro h
      exact hne (by unfold bytes; rw [List.isEmpty_iff.1 h]; rfl)
    have HNE := Lib.hid hne
    clear hne
    go_enter Tryz.func40, Tryz.ntmps40
    go_wp2_with (refine wpList_make_own _ rfl _ _ _ rfl w.heap.size 5 i0 (.int .u8 0) 1 Tryz.underlying48 hi hz0 hz1 .i64 .i64 _ (2 * s.size) rfl rfl ?_ ?_ ?_ ?_ ?_)
    · omega
    · rw [hz2]; omega
    · unfold maxLen; omega
    · exact Nat.le_refl _
    intro w0 hown0 hgr0
    have HOWN0 := Lib.hid hown0
    have HB0 := Lib.hid ((Below.refl w.heap.size w).grown hgr0 (Nat.le_refl _) (by simp))
    clear hown0 hgr0 h0
    go_wp2_with fail
    go_loopw [3, 13] (fun v i wr => ∃ j : Nat, j ≤ s.size ∧ i = .int .i64 j ∧ wr.ownsRow w.heap.size 5 1 v (hexes ((bytes s).take j)).length ((hexes ((bytes s).take j)).map (Value.int .u8)) ∧ Below w.heap.size w wr) (fun _ i _ => s.size - (intOf i).toNat)
    case atStart => exact ⟨0, by omega, rfl, HOWN0.out, HB0.out⟩
    case round =>
      obtain ⟨j, hj, rfl, hown, hb⟩ := hrel
      clear HOWN0 HB0
      have HOWN := Lib.hid hown
      have hs1 := hb.size
      clear hown
      by_cases hlt : j < s.size
      · have HAT := Lib.hid (bytes_at s j hlt)
        have hx8 := bytes_lt s _ (List.mem_of_getElem? (bytes_at s j hlt))
        have HSN := Lib.hid (hexes_snoc HAT.out)
        have hlen := hexes_len ((bytes s).take j)
        rw [List.length_take, bytes_len] at hlen
        have HLEN := Lib.hid hlen
        clear hlen
        have q1 : 0 ≤ (((s[j]'hlt).toNat : Nat) : Int) / 16 ∧ (((s[j]'hlt).toNat : Nat) : Int) / 16 < 16 := by omega
        have q2 : bits .and .u8 (((s[j]'hlt).toNat : Nat) : Int) 15 = (((s[j]'hlt).toNat : Nat) : Int) % 16 := low_byte _ (by omega) (by omega)
        have q3 : 0 ≤ (((s[j]'hlt).toNat : Nat) : Int) % 16 ∧ (((s[j]'hlt).toNat : Nat) : Int) % 16 < 16 := by omega
        have hj0 : (0 : Int) ≤ (j : Int) := by omega
        have hjn : (j : Int) < (s.size : Int) := by omega
        go_wp2_with fail
        refine wp_region_any (by kernel_rfl) ?_
        refine wpAny_take (i := 0) (v := ?_) rfl (by kernel_rfl) (by kernel_rfl) (by kernel_rfl) (fun _ _ _ h => h) (Or.inl ⟨by kernel_rfl, ?_⟩) ?_
        rotate_left
        · (intro W2; go_simp; try with_reducible rfl)
        refine wpAny_take (i := 1) (v := ?_) rfl (by kernel_rfl) (by kernel_rfl) (by kernel_rfl) (fun _ _ _ h => h) (Or.inl ⟨by kernel_rfl, ?_⟩) ?_
        rotate_left
        · (intro W2; go_simp; try with_reducible rfl)
        refine wpAny_take (i := 2) (v := ?_) rfl (by kernel_rfl) (by kernel_rfl) (by kernel_rfl) (fun _ _ _ h => h) (Or.inl ⟨by kernel_rfl, ?_⟩) ?_
        rotate_left
        · (intro W2; go_simp; try with_reducible rfl)
        refine wpAny_take (i := 3) (v := ?_) rfl (by kernel_rfl) (by kernel_rfl) (by kernel_rfl) (fun _ _ _ h => h) (Or.inl ⟨by kernel_rfl, ?_⟩) ?_
        rotate_left
        · (intro W2; go_simp; try with_reducible rfl)
        refine wpAny_take (i := 4) (v := ?_) rfl (by kernel_rfl) (by kernel_rfl) (by kernel_rfl) (fun _ _ _ h => h) (Or.inl ⟨by kernel_rfl, ?_⟩) ?_
        rotate_left
        · (intro W2; go_simp; try with_reducible rfl)
        refine wpAny_take (i := 5) (v := .int .u8 (hexI ((s[j]'hlt).toNat / 16))) rfl (by kernel_rfl) (by kernel_rfl) (by kernel_rfl) (fun _ _ _ h => h) (Or.inl ⟨by kernel_rfl, ?_⟩) ?_
        · (intro W2; go_simp; rw [hex_at _ ((s[j]'hlt).toNat / 16) (by omega)])
        refine wpAny_take (i := 6) (v := ?_) rfl (by kernel_rfl) (by kernel_rfl) (by kernel_rfl) (fun _ _ _ h => h) (Or.inl ⟨by kernel_rfl, ?_⟩) ?_
        rotate_left
        · (intro W2; go_simp; try with_reducible rfl)
        refine wpAny_take (i := 7) (v := ?_) rfl (by kernel_rfl) (by kernel_rfl) (by kernel_rfl) (fun _ _ _ h => h) (Or.inl ⟨by kernel_rfl, ?_⟩) ?_
        rotate_left
        · (intro W2; go_simp; try with_reducible rfl)
        refine wpAny_take (i := 8) (v := ?_) rfl (by kernel_rfl) (by kernel_rfl) (by kernel_rfl) (fun _ _ _ h => h) (Or.inl ⟨by kernel_rfl, ?_⟩) ?_
        rotate_left
        · (intro W2; go_simp; try with_reducible rfl)
        refine wpAny_take (i := 9) (v := ?_) rfl (by kernel_rfl) (by kernel_rfl) (by kernel_rfl) (fun _ _ _ h => h) (Or.inl ⟨by kernel_rfl, ?_⟩) ?_
        rotate_left
        · (intro W2; go_simp; try with_reducible rfl)
        refine wpAny_take (i := 10) (v := .int .u8 (hexI ((s[j]'hlt).toNat % 16))) rfl (by kernel_rfl) (by kernel_rfl) (by kernel_rfl) (fun _ _ _ h => h) (Or.inl ⟨by kernel_rfl, ?_⟩) ?_
        · (intro W2; go_simp; rw [hex_at _ ((s[j]'hlt).toNat % 16) (by omega)])
        refine wpAny_ready (rs := [11]) (by kernel_rfl) (by simp) ?_
        refine AllReady.cons rfl (fun K hK => ?_) AllReady.nil
        go_simp
        refine hK _ _ ?_
        clear hK K
        refine wpAny_ready (rs := [12]) (by kernel_rfl) (by simp) ?_
        refine AllReady.cons rfl (fun K hK => ?_) AllReady.nil
        have HOWNa : Hid ((wr.drew.alloc (.cells #[.int .u8 (hexI ((s[j]'hlt).toNat / 16)), .int .u8 (hexI ((s[j]'hlt).toNat % 16))] 5)).ownsRow w.heap.size 5 1 u3 (hexes ((bytes s).take j)).length ((hexes ((bytes s).take j)).map (Value.int .u8))) := HOWN.out.drew.alloc _
        have HBa : Hid (Below w.heap.size w (wr.drew.alloc (.cells #[.int .u8 (hexI ((s[j]'hlt).toNat / 16)), .int .u8 (hexI ((s[j]'hlt).toNat % 16))] 5))) := (Below.drew hb).alloc hs1 _
        have hca : ∀ (j' : Nat) (u : Value), [Value.int .u8 (hexI ((s[j]'hlt).toNat / 16)), .int .u8 (hexI ((s[j]'hlt).toNat % 16))][j']? = some u → (wr.drew.alloc (.cells #[.int .u8 (hexI ((s[j]'hlt).toNat / 16)), .int .u8 (hexI ((s[j]'hlt).toNat % 16))] 5)).cell? ((⟨wr.drew.heap.size, 0, none⟩ : Addr).add j') = some u := cells_lit_new wr.drew _ _
        refine step_append_own rfl _ _ 48 rfl w.heap.size 5 i0 (.int .u8 0) 1 1 Tryz.underlying48 hi hz0 hz1 hz2 rfl (by decide) _ _ _ rfl HOWNa.out ⟨wr.drew.heap.size, 0, none⟩ 2 2 [.int .u8 (hexI ((s[j]'hlt).toNat / 16)), .int .u8 (hexI ((s[j]'hlt).toNat % 16))] rfl rfl hca ?_ ?_ ?_ ?_ ?_
        · exact ints_oneCell .u8 [hexI ((s[j]'hlt).toNat / 16), hexI ((s[j]'hlt).toNat % 16)]
        · unfold maxLen; have := HLEN.out; omega
        · have := HLEN.out; omega
        · exact HBa.out.size
        intro v' w1 hown' hgrow
        have hb1 : Below w.heap.size w w1 := HBa.out.grown hgrow HBa.out.size (fun g hg => (HOWN.out.lt g hg).1)
        have HO := Lib.hid hown'
        have HB1 := Lib.hid hb1
        clear hown' hgrow hb1 HOWNa HBa hca
        refine hK _ _ ?_
        clear hK K
        refine wpAny_take (i := 13) (v := ?_) rfl (by kernel_rfl) (by kernel_rfl) (by kernel_rfl) (fun _ _ _ h => h) (Or.inl ⟨by kernel_rfl, ?_⟩) ?_
        rotate_left
        · (intro W2; go_simp; try with_reducible rfl)
        refine wpAny_done (by kernel_rfl) ?_ _
        dsimp [Act.put]
        simp only [List.setIfInBounds_toArray, List.set_cons_zero, List.set_cons_succ]
        clear q1 q2 q3
        go_wp2
        refine ⟨⟨j + 1, by omega, by go_num, ?_, HB1.out⟩, by simp [intOf]; omega⟩
        rw [HSN.out]; have := HO.out; simpa using this
      · have : j = s.size := by omega
        subst this
        have HTK : Hid ((bytes s).take s.size = bytes s) := List.take_of_length_le (by rw [bytes_len]; exact Nat.le_refl _)
        rw [HTK.out] at HOWN
        have hform := HOWN.out.2
        have hpos : 0 < (hexes (bytes s)).length := by rw [hexes_len, bytes_len]; have : s.size ≠ 0 := fun e => HNE.out (List.eq_nil_of_length_eq_zero (by rw [bytes_len, e])); omega
        rcases hform with ⟨_, hn0⟩ | ⟨g, cap, cur, rfl, hg, hblk, hcap, hmx, hsz, htk⟩
        · omega
        have hcv := conv_own wr w.heap.size g _ cap (hexes (bytes s)) rfl HOWN.out
        have HCV := Lib.hid hcv
        clear hcap htk hsz hmx hblk hcv
        generalize hnn : (hexes (bytes s)).length = n at *
        have hcv := HCV.out
        clear hnn
        go_wp2
        go_ret
        exact ⟨by rw [fmtPrint, if_neg HNE.out]; rfl, hb⟩
end Go.Proofs.YtiedaongfjcbhabGreatDoor
