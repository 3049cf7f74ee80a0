/- Package table: a rule, read. -/
import Derived.Test.YtiedaongfjcbhaaPar4
namespace Go.Proofs.Ytiedaongfjcbhaa
open Go.RowKit

def Fds.r1 (s : Fds) : Fds := s.numS 999
def Fds.r2 (s : Fds) : Fds := s.r1.numS 999
def Fds.r3 (s : Fds) : Fds := s.r2.numS 255
def Fds.r4 (s : Fds) : Fds := s.r3.numS 255
def Fds.r5 (s : Fds) : Fds := s.r4.csS
def Fds.r6 (s : Fds) : Fds := s.r5.prS
def Fds.ru (s : Fds) : Rule := ⟨strOf s.r5.prL, s.r4.csL, s.r2.num 255, s.r3.num 255, s.num 999, s.r1.num 999⟩
theorem gb_setNew {w a : World} {g q i : Nat} (v : Value) (h : w.grownBy a (some g)) (hq : w.heap.size ≤ q) : w.grownBy (a.setCell ⟨q, i, none⟩ v) (some g) :=
  ⟨h.os, h.tape, h.output, by simpa using h.size, fun k hk hr => (Below.heap_setCell a ⟨q, i, none⟩ v k (fun e => by simp at e; omega)).trans (h.block k hk hr)⟩
theorem gb_allocR {w a : World} {g : Nat} (o : Obj) (h : w.grownBy a (some g)) : w.grownBy (a.alloc o) (some g) := gb_trans h (World.grownBy_alloc a o _)
theorem rl1 (s : Fds) : s.r1.rest.length ≤ s.rest.length := numS_len s 999
theorem rl2 (s : Fds) : s.r2.rest.length ≤ s.rest.length := Nat.le_trans (numS_len s.r1 999) (rl1 s)
theorem rl3 (s : Fds) : s.r3.rest.length ≤ s.rest.length := Nat.le_trans (numS_len s.r2 255) (rl2 s)
theorem rl4 (s : Fds) : s.r4.rest.length ≤ s.rest.length := Nat.le_trans (numS_len s.r3 255) (rl3 s)
theorem rl5 (s : Fds) : s.r5.rest.length ≤ s.rest.length := Nat.le_trans (restL_len 32 s.r4.rest).1 (rl4 s)
theorem csL_bd (s : Fds) : ∀ z ∈ s.csL, 0 ≤ z ∧ z < 64 := by
  unfold Fds.csL
  cases h : s.cs with
  | none => intro z hz; simp at hz
  | some xs => exact cellsG_bd _ _ _ _ h (fun z hz => by simp at hz)
theorem csL_len (s : Fds) : s.csL.length ≤ s.word.length + 1 := by
  unfold Fds.csL
  cases h : s.cs with
  | none => simp
  | some xs => have := cellsG_len _ _ _ _ h; simp at this; simpa using this
theorem prL_len (s : Fds) : s.prL.length ≤ s.word.length := by
  unfold Fds.prL prOf
  split
  · simp
  · split
    · simp
    · split
      · simp
      · split
        · simp; omega
        · simp
theorem ru_fits (s : Fds) (hmax : s.rest.length < 2 ^ 40) : s.ru.fits := by
  have h1 := num_bd s.r2 255 (by omega)
  have h2 := num_bd s.r3 255 (by omega)
  have h3 := num_bd s 999 (by omega)
  have h4 := num_bd s.r1 999 (by omega)
  have h5 := csL_len s.r4
  have h6 := (restL_len 32 s.r4.rest).2
  have h7 := rl4 s
  have h8 := prL_len s.r5
  have h9 := (restL_len 32 s.r5.rest).2
  have h10 := rl5 s
  refine ⟨?_, ?_, fun z hz => ?_, ⟨h1.1, by show s.r2.num 255 < 256; omega⟩, ⟨h2.1, by show s.r3.num 255 < 256; omega⟩, ⟨by show _ ≤ s.num 999; omega, by show s.num 999 ≤ _; omega⟩, ⟨by show _ ≤ s.r1.num 999; omega, by show s.r1.num 999 ≤ _; omega⟩⟩
  · show (strOf s.r5.prL).size < _; rw [strOf_size]; unfold Fds.word at h8; omega
  · show s.r4.csL.length < _; unfold Fds.word at h5; omega
  · have := csL_bd s.r4 z hz; omega
end Go.Proofs.Ytiedaongfjcbhaa
