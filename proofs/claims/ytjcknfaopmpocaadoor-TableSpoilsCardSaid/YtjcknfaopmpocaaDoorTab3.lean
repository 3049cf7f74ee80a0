/- The reference of package table: clean texts. -/
import Derived.Test.YtjcknfaopmpocaaDoorTab2
namespace Go.Proofs.YtjcknfaopmpocaaDoor
open Go.RowKit

theorem cleanGo_first {l : List Nat} {x : Nat} (hx : l[0]? = some x) : cleanGo true l = if isSp x then false else cleanGo false (l.drop 1) := by
  cases l with
  | nil => simp at hx
  | cons a r =>
    simp at hx; subst hx
    cases h : isSp a <;> simp [cleanGo, h]
theorem cleanGo_last : ∀ {l : List Nat} {b : Bool} {x : Nat}, l[l.length - 1]? = some x → isSp x = true → cleanGo b l = false := by
  intro l
  induction l with
  | nil => intro b x h; simp at h
  | cons a r ih =>
    intro b x h hs
    cases r with
    | nil => simp at h; subst h; cases b <;> simp [cleanGo, hs]
    | cons c r =>
      have h2 : (c :: r)[(c :: r).length - 1]? = some x := by simpa using h
      have := ih (b := isSp a) h2 hs
      unfold cleanGo
      rw [this]; simp
set_option maxRecDepth 10000 in
theorem rClean_any (s : ByteArray) (w : World) (hmax : s.size < 2 ^ 48) :
    Calls Tryd.prog 14 #[.string s] w fun e w' => e = .returned (.bool (cleanB (bytes s))) ∧ w = w' := by
  have hl := bytes_len s
  obtain ⟨t, ht⟩ : ∃ t, isTextB (bytes s) = t := ⟨_, rfl⟩
  have HT := Lib.hid ht
  clear ht
  by_cases hbad : t = false ∨ s.size = 0 ∨ 400 < s.size
  · have h5 : false = cleanB (bytes s) := by
      unfold cleanB
      rcases hbad with h | h | h
      · rw [HT.out, h]; simp
      · have : bytes s = [] := List.eq_nil_of_length_eq_zero (by omega)
        rw [this]; rfl
      · rw [show decide ((bytes s).length ≤ 400) = false from by simp; omega]; rfl
    have H5 := Lib.hid h5
    clear h5 hl
    by_cases ht : t = false
    · subst ht
      clear hbad
      go_enter Tryd.func14, Tryd.ntmps14
      go_wp2_with (go_at_call 30; refine (rIsText_any s _ hmax).mono ?_; rintro e w' ⟨rfl, rfl⟩; rw [HT.out])
      go_ret
      exact ⟨ret_bool H5.out, rfl⟩
    · obtain rfl : t = true := by cases t <;> simp_all
      by_cases h0 : s.size = 0
      · have H0 := Lib.hid h0
        have h00 : ((s.size : Int) == 0) = true := by simp [h0]
        clear h0 hbad
        go_enter Tryd.func14, Tryd.ntmps14
        go_wp2_with (go_at_call 30; refine (rIsText_any s _ hmax).mono ?_; rintro e w' ⟨rfl, rfl⟩; rw [HT.out])
        go_ret
        exact ⟨ret_bool H5.out, rfl⟩
      · have h00 : ((s.size : Int) == 0) = false := beq_eq_false_iff_ne.2 (by omega)
        have h44 : 400 < s.size := by rcases hbad with h | h | h <;> first | exact h | (exfalso; exact h0 h) | (cases h)
        clear hbad
        go_enter Tryd.func14, Tryd.ntmps14
        go_wp2_with (go_at_call 30; refine (rIsText_any s _ hmax).mono ?_; rintro e w' ⟨rfl, rfl⟩; rw [HT.out])
        go_ret
        exact ⟨ret_bool H5.out, rfl⟩
  · obtain rfl : t = true := by cases t <;> simp_all
    have h0 : 0 < s.size := by omega
    have h4 : s.size ≤ 400 := by omega
    clear hbad
    have h00 : ((s.size : Int) == 0) = false := beq_eq_false_iff_ne.2 (by omega)
    have HB : Hid (∀ b, cleanGo true (bytes s) = b → b = cleanB (bytes s)) := fun b h1 => by
      unfold cleanB; rw [HT.out, h1, show decide ((bytes s).length ≤ 400) = true from by simp; omega]; rfl
    clear hl
    have h1 : s.size - 1 < s.size := by omega
    have HA0 := Lib.hid (bytes_at s 0 h0)
    have hx0 := bytes_lt s _ (List.mem_of_getElem? (bytes_at s 0 h0))
    have HA1 := Lib.hid (bytes_at s (s.size - 1) h1)
    have hx1 := bytes_lt s _ (List.mem_of_getElem? (bytes_at s (s.size - 1) h1))
    obtain ⟨c0, hc0⟩ : ∃ c, isSp (s[0]'h0).toNat = c := ⟨_, rfl⟩
    obtain ⟨c1, hc1⟩ : ∃ c, isSp (s[s.size - 1]'h1).toNat = c := ⟨_, rfl⟩
    generalize hxe0 : (s[0]'h0).toNat = x0 at *
    generalize hxe1 : (s[s.size - 1]'h1).toNat = x1 at *
    have HC0 := Lib.hid hc0
    have HC1 := Lib.hid hc1
    clear hc0 hc1
    have hi : IntKind.i64.wrap ((s.size : Int) - 1) = (s.size : Int) - 1 := IntWalk.i64_in _ (by omega)
    go_enter Tryd.func14, Tryd.ntmps14
    go_wp2_with fail
    refine (rIsText_any s _ hmax).mono ?_; rintro e _ ⟨rfl, rfl⟩; rw [HT.out]
    go_wp2_with fail
    refine (rSpace_any _ (by omega) (by omega) _).mono ?_; rintro e _ ⟨rfl, rfl⟩; rw [show isSpI x0 = c0 from HC0.out]
    cases c0
    · go_wp2_with fail
      refine (rSpace_any _ (by omega) (by omega) _).mono ?_; rintro e _ ⟨rfl, rfl⟩; rw [show isSpI x1 = c1 from HC1.out]
      cases c1
      · go_wp2_with fail
        clear hi h00 hxe0 hxe1
        go_loop [3] (fun i => ∃ (j : Nat) (b : Bool) (x : Nat), 1 ≤ j ∧ j ≤ s.size ∧ i = .int .i64 j ∧ (bytes s)[j - 1]? = some x ∧ isSp x = b ∧ cleanGo true (bytes s) = cleanGo b ((bytes s).drop j)) (fun i => s.size - (intOf i).toNat)
        case atStart => exact ⟨1, false, x0, by omega, by omega, rfl, HA0.out, HC0.out, by rw [cleanGo_first HA0.out, HC0.out]; rfl⟩
        case round =>
          obtain ⟨j, b, y, hj1, hj, rfl, hat, hb, hgo⟩ := hrel
          have HGO := Lib.hid hgo
          have HB1 := Lib.hid hb
          have HAY := Lib.hid hat
          clear hgo hb hat
          by_cases hlt : j < s.size
          · have HAT := Lib.hid (bytes_at s j hlt)
            have hx := bytes_lt s _ (List.mem_of_getElem? (bytes_at s j hlt))
            have hj2 : j - 1 < s.size := by omega
            have hYe := bytes_at s (j - 1) hj2
            rw [HAY.out] at hYe
            injection hYe with hYe
            have hy := bytes_lt s _ (List.mem_of_getElem? HAY.out)
            have hi : IntKind.i64.wrap ((j : Int) - 1) = (j : Int) - 1 := IntWalk.i64_in _ (by omega)
            generalize hxe : (s[j]'hlt).toNat = x at *
            generalize hye : (s[j - 1]'hj2).toNat = y2 at *
            subst hYe
            obtain ⟨c, hc⟩ : ∃ c, isSp x = c := ⟨_, rfl⟩
            have HC := Lib.hid hc
            clear hc
            go_wp2_with fail
            refine (rSpace_any _ (by omega) (by omega) _).mono ?_; rintro e _ ⟨rfl, rfl⟩; rw [show isSpI x = c from HC.out]
            cases c
            · go_wp2
              exact ⟨⟨j + 1, false, x, by omega, by omega, by go_num, HAT.out, HC.out, cleanGo_step HGO.out HAT.out HC.out (by cases b <;> rfl)⟩, by simp [intOf]; omega⟩
            · go_wp2_with fail
              refine (rSpace_any _ (by omega) (by omega) _).mono ?_; rintro e _ ⟨rfl, rfl⟩; rw [show isSpI y = b from HB1.out]
              cases b
              · go_wp2
                exact ⟨⟨j + 1, true, x, by omega, by omega, by go_num, HAT.out, HC.out, cleanGo_step HGO.out HAT.out HC.out rfl⟩, by simp [intOf]; omega⟩
              · go_wp2
                go_ret
                exact ⟨ret_bool (HB.out _ (cleanGo_stop HGO.out HAT.out rfl HC.out)), rfl⟩
          · have : j = s.size := by omega
            subst this
            have h := HGO.out
            rw [← bytes_len] at h
            have he := cleanGo_end h
            have hb : b = false := by
              have h1 := HAY.out; rw [HA1.out] at h1; injection h1 with h1
              rw [← HB1.out, ← h1]; exact HC1.out
            rw [hb] at he
            have HE := Lib.hid he
            clear h he hb
            go_wp2
            go_ret
            exact ⟨ret_bool (HB.out _ HE.out), rfl⟩
      · go_wp2
        go_ret
        exact ⟨ret_bool (HB.out _ (cleanGo_last (by rw [bytes_len]; exact HA1.out) HC1.out)), rfl⟩
    · go_wp2
      go_ret
      exact ⟨ret_bool (HB.out _ (by rw [cleanGo_first HA0.out, HC0.out]; rfl)), rfl⟩
end Go.Proofs.YtjcknfaopmpocaaDoor
