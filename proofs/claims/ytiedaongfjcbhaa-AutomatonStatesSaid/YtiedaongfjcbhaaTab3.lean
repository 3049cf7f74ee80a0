/- The reference of package table: clean texts. -/
import Derived.Test.YtiedaongfjcbhaaTab2
namespace Go.Proofs.Ytiedaongfjcbhaa
open Go.RowKit

theorem cleanGo_first {l : List Nat} {x : Nat} (hx : l[0]? = some x) : cleanGo true l = if isSp x then false else cleanGo false (l.drop 1) := by
  cases l with
  | nil => simp at hx
  | cons a r =>
    simp at hx; subst hx
    cases h : isSp a <;> simp [cleanGo, h]
theorem cleanGo_last : ∀ {l : List Nat} {b : Bool} {x : Nat}, l[l.length - 1]? = some x → isSp x = true → cleanGo b l = false := by
  intro l
  induction l with
  | nil => intro b x h; simp at h
  | cons a r ih =>
    intro b x h hs
    cases r with
    | nil => simp at h; subst h; cases b <;> simp [cleanGo, hs]
    | cons c r =>
      have h2 : (c :: r)[(c :: r).length - 1]? = some x := by simpa using h
      have := ih (b := isSp a) h2 hs
      unfold cleanGo
      rw [this]; simp
end Go.Proofs.Ytiedaongfjcbhaa
