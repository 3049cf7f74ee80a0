/- Numbers as text: strconv's Itoa and Atoi, strings.Join and IndexByte, by their contracts; the variables of the library that they read. -/
import Derived.Test.YtiedaongfjcbhaaBase
import Derived.Test.YtiedaongfjcbhaaShelf
import Derived.WalkSmall
import Derived.Lib.AppendIntMem
import Derived.Lib.SmallJoins
namespace Go.Proofs.Ytiedaongfjcbhaa
open Go.RowKit
/-- What the library's variables hold. -/
def Laid (w : World) : Prop := (∃ tp p, w.var? Try.prog "strconv.ErrSyntax" = some #[.iface tp p]) ∧ (∃ tp p, w.var? Try.prog "strconv.ErrRange" = some #[.iface tp p]) ∧ Lib.TabIs Try.prog w "internal/strconv.uint64pow10" .u64 Lib.pow10Tab
theorem var_lt {w : World} {n : String} {g : Nat} {cs : Array Value} (hg : Try.prog.globalNamed n = some g) (h : w.var? Try.prog n = some cs) : g < w.heap.size := by
  unfold World.var? at h
  rw [hg] at h
  simp only [Option.bind_some] at h
  rcases Nat.lt_or_ge g w.heap.size with hl | hl
  · exact hl
  · rw [Array.getElem?_eq_none hl] at h; cases h
def strU (l : List UInt8) : ByteArray := ⟨l.toArray⟩
/-- The number that a string spells in decimal digits, and whether there is one. -/
def atoiE (l : List UInt8) : Option Int := match Lib.atoiAll l with
  | .ok v => some v
  | _ => none
def AtoiEnd (l : List UInt8) (w : World) (e : Ending) (w' : World) : Prop :=
  Below w.heap.size w w' ∧ match atoiE l with
    | some v => e = .returned (.tuple #[.int .i64 v, .nilIface])
    | none => ∃ v tp p, e = .returned (.tuple #[.int .i64 v, .iface tp p])
end Go.Proofs.Ytiedaongfjcbhaa
