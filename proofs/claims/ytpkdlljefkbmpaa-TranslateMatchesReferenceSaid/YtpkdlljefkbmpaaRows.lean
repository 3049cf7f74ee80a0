/-
  No cell of these rows narrows 'for every input' (looked for: loops, veiled, ifaces, maps, wideKeys, modest, calm, conditions, laid).
  DERIVED. THE GIVEN ROWS OF THIS SEAT. 13 by the template 'for every input the law returns true; each argument reads behind the call as it read before'; 0 by the template 'total and deterministic' (their statements: YtpkdlljefkbmpaaTotals.lean).
  GIVEN WITH THE SEED: the statements are not yours to turn. If you find one false, say at which input.
  Laid BY PROGRAM, IN A SANDBOX (cutbox-rows.mjs): the forced cells as the released guide's own fill.sh prints them over the translation c969e274b4b782fc… (all of the seat's roots in one cut). By AI agents, Wed Nov 11 2026. No macro, syntax, notation, axiom, sorry.
-/
import Derived.Test.YtpkdlljefkbmpaaChecked
import GoSem.Claim
import GoSem.ClaimJoined
import GoSem.ClaimMapViews
import Derived.JoinedTies
import Derived.KernelRfl
namespace Go.Proofs.Ytpkdlljefkbmpaa
/- THE CELL 'sum', in the pinned program and in every row, IS THE sha256 OF THE DUMP (.gsa) THAT YtpkdlljefkbmpaaProg.lean LOADS. Nothing in Lean hashes anything: it is a label: what it is worth is what the hold of that sum in a sandbox is worth. -/
noncomputable def Try.pinned : Pinned := { name := "ytpkdlljefkbmpaa", sum := "c969e274b4b782fcc234497b485bd09523880ade1fe5a32db5f9f64c94dc22f7", checked := Try.checked }
namespace Rows
def none {H : Type} : Left H := { results := [], args := [] }

/-- 'sixdotlaw04.ReadbackMatchesReference': WHATEVER THE INPUT: true; the input reads as it did. -/
def readbackMatchesReferenceSpec : ChangeSpec := { name := "readbackMatchesReference", fn := fun _ => fun
  | [d1, d2, d3] => { results := [.lit (.bool true)], args := [d1, d2, d3] }
  | _ => none }
def readbackMatchesReferenceRow : OpenClaim := { program := "ytpkdlljefkbmpaa", sum := "c969e274b4b782fcc234497b485bd09523880ade1fe5a32db5f9f64c94dc22f7", func := "sixdot/sixdotlaw04.ReadbackMatchesReference", spec := "readbackMatchesReference", unfollowed := true, recurses := true, plainKeys := false, apart := false }
def ReadbackMatchesReferenceSaid : Prop := readbackMatchesReferenceRow.holds Try.pinned (OpenSpec.ofChange readbackMatchesReferenceSpec)

/-- ITS FALSE NEIGHBOUR: 'it returns false'. Refute it at one input. -/
def readbackMatchesReferenceWrong : ChangeSpec := { name := "readbackMatchesReference", fn := fun _ => fun
  | [d1, d2, d3] => { results := [.lit (.bool false)], args := [d1, d2, d3] }
  | _ => none }
def ReadbackMatchesReferenceWrongFalsely : Prop := readbackMatchesReferenceRow.holds Try.pinned (OpenSpec.ofChange readbackMatchesReferenceWrong)

/-- 'sixdotlaw04.ReadbackReadsPaths': WHATEVER THE INPUT: true; the input reads as it did. -/
def readbackReadsPathsSpec : ChangeSpec := { name := "readbackReadsPaths", fn := fun _ => fun
  | [d1, d2] => { results := [.lit (.bool true)], args := [d1, d2] }
  | _ => none }
def readbackReadsPathsRow : OpenClaim := { program := "ytpkdlljefkbmpaa", sum := "c969e274b4b782fcc234497b485bd09523880ade1fe5a32db5f9f64c94dc22f7", func := "sixdot/sixdotlaw04.ReadbackReadsPaths", spec := "readbackReadsPaths", unfollowed := true, recurses := true, plainKeys := false, apart := false }
def ReadbackReadsPathsSaid : Prop := readbackReadsPathsRow.holds Try.pinned (OpenSpec.ofChange readbackReadsPathsSpec)

/-- ITS FALSE NEIGHBOUR: 'it returns false'. Refute it at one input. -/
def readbackReadsPathsWrong : ChangeSpec := { name := "readbackReadsPaths", fn := fun _ => fun
  | [d1, d2] => { results := [.lit (.bool false)], args := [d1, d2] }
  | _ => none }
def ReadbackReadsPathsWrongFalsely : Prop := readbackReadsPathsRow.holds Try.pinned (OpenSpec.ofChange readbackReadsPathsWrong)

/-- 'sixdotlaw04.ReadbackOrders': WHATEVER THE INPUT: true; the input reads as it did. -/
def readbackOrdersSpec : ChangeSpec := { name := "readbackOrders", fn := fun _ => fun
  | [d1, d2, d3] => { results := [.lit (.bool true)], args := [d1, d2, d3] }
  | _ => none }
def readbackOrdersRow : OpenClaim := { program := "ytpkdlljefkbmpaa", sum := "c969e274b4b782fcc234497b485bd09523880ade1fe5a32db5f9f64c94dc22f7", func := "sixdot/sixdotlaw04.ReadbackOrders", spec := "readbackOrders", unfollowed := true, recurses := true, plainKeys := false, apart := false }
def ReadbackOrdersSaid : Prop := readbackOrdersRow.holds Try.pinned (OpenSpec.ofChange readbackOrdersSpec)

/-- ITS FALSE NEIGHBOUR: 'it returns false'. Refute it at one input. -/
def readbackOrdersWrong : ChangeSpec := { name := "readbackOrders", fn := fun _ => fun
  | [d1, d2, d3] => { results := [.lit (.bool false)], args := [d1, d2, d3] }
  | _ => none }
def ReadbackOrdersWrongFalsely : Prop := readbackOrdersRow.holds Try.pinned (OpenSpec.ofChange readbackOrdersWrong)

/-- 'sixdotlaw04.ReadbackBeginnings': WHATEVER THE INPUT: true; the input reads as it did. -/
def readbackBeginningsSpec : ChangeSpec := { name := "readbackBeginnings", fn := fun _ => fun
  | [d1, d2] => { results := [.lit (.bool true)], args := [d1, d2] }
  | _ => none }
def readbackBeginningsRow : OpenClaim := { program := "ytpkdlljefkbmpaa", sum := "c969e274b4b782fcc234497b485bd09523880ade1fe5a32db5f9f64c94dc22f7", func := "sixdot/sixdotlaw04.ReadbackBeginnings", spec := "readbackBeginnings", unfollowed := true, recurses := true, plainKeys := false, apart := false }
def ReadbackBeginningsSaid : Prop := readbackBeginningsRow.holds Try.pinned (OpenSpec.ofChange readbackBeginningsSpec)

/-- ITS FALSE NEIGHBOUR: 'it returns false'. Refute it at one input. -/
def readbackBeginningsWrong : ChangeSpec := { name := "readbackBeginnings", fn := fun _ => fun
  | [d1, d2] => { results := [.lit (.bool false)], args := [d1, d2] }
  | _ => none }
def ReadbackBeginningsWrongFalsely : Prop := readbackBeginningsRow.holds Try.pinned (OpenSpec.ofChange readbackBeginningsWrong)

/-- 'sixdotlaw04.ReadbackNeedsPaths': WHATEVER THE INPUT: true; the input reads as it did. -/
def readbackNeedsPathsSpec : ChangeSpec := { name := "readbackNeedsPaths", fn := fun _ => fun
  | [d1, d2] => { results := [.lit (.bool true)], args := [d1, d2] }
  | _ => none }
def readbackNeedsPathsRow : OpenClaim := { program := "ytpkdlljefkbmpaa", sum := "c969e274b4b782fcc234497b485bd09523880ade1fe5a32db5f9f64c94dc22f7", func := "sixdot/sixdotlaw04.ReadbackNeedsPaths", spec := "readbackNeedsPaths", unfollowed := true, recurses := true, plainKeys := false, apart := false }
def ReadbackNeedsPathsSaid : Prop := readbackNeedsPathsRow.holds Try.pinned (OpenSpec.ofChange readbackNeedsPathsSpec)

/-- ITS FALSE NEIGHBOUR: 'it returns false'. Refute it at one input. -/
def readbackNeedsPathsWrong : ChangeSpec := { name := "readbackNeedsPaths", fn := fun _ => fun
  | [d1, d2] => { results := [.lit (.bool false)], args := [d1, d2] }
  | _ => none }
def ReadbackNeedsPathsWrongFalsely : Prop := readbackNeedsPathsRow.holds Try.pinned (OpenSpec.ofChange readbackNeedsPathsWrong)

/-- 'sixdotlaw06.TranslateMatchesReference': WHATEVER THE INPUT: true; the input reads as it did. -/
def translateMatchesReferenceSpec : ChangeSpec := { name := "translateMatchesReference", fn := fun _ => fun
  | [d1, d2, d3] => { results := [.lit (.bool true)], args := [d1, d2, d3] }
  | _ => none }
def translateMatchesReferenceRow : OpenClaim := { program := "ytpkdlljefkbmpaa", sum := "c969e274b4b782fcc234497b485bd09523880ade1fe5a32db5f9f64c94dc22f7", func := "sixdot/sixdotlaw06.TranslateMatchesReference", spec := "translateMatchesReference", unfollowed := true, recurses := true, plainKeys := false, apart := false }
def TranslateMatchesReferenceSaid : Prop := translateMatchesReferenceRow.holds Try.pinned (OpenSpec.ofChange translateMatchesReferenceSpec)

/-- ITS FALSE NEIGHBOUR: 'it returns false'. Refute it at one input. -/
def translateMatchesReferenceWrong : ChangeSpec := { name := "translateMatchesReference", fn := fun _ => fun
  | [d1, d2, d3] => { results := [.lit (.bool false)], args := [d1, d2, d3] }
  | _ => none }
def TranslateMatchesReferenceWrongFalsely : Prop := translateMatchesReferenceRow.holds Try.pinned (OpenSpec.ofChange translateMatchesReferenceWrong)

/-- 'sixdotlaw06.TranslateRefuses': WHATEVER THE INPUT: true; the input reads as it did. -/
def translateRefusesSpec : ChangeSpec := { name := "translateRefuses", fn := fun _ => fun
  | [d1, d2, d3] => { results := [.lit (.bool true)], args := [d1, d2, d3] }
  | _ => none }
def translateRefusesRow : OpenClaim := { program := "ytpkdlljefkbmpaa", sum := "c969e274b4b782fcc234497b485bd09523880ade1fe5a32db5f9f64c94dc22f7", func := "sixdot/sixdotlaw06.TranslateRefuses", spec := "translateRefuses", unfollowed := true, recurses := true, plainKeys := false, apart := false }
def TranslateRefusesSaid : Prop := translateRefusesRow.holds Try.pinned (OpenSpec.ofChange translateRefusesSpec)

/-- ITS FALSE NEIGHBOUR: 'it returns false'. Refute it at one input. -/
def translateRefusesWrong : ChangeSpec := { name := "translateRefuses", fn := fun _ => fun
  | [d1, d2, d3] => { results := [.lit (.bool false)], args := [d1, d2, d3] }
  | _ => none }
def TranslateRefusesWrongFalsely : Prop := translateRefusesRow.holds Try.pinned (OpenSpec.ofChange translateRefusesWrong)

/-- 'sixdotlaw07.ReviseStarts': WHATEVER THE INPUT: true; the input reads as it did. -/
def reviseStartsSpec : ChangeSpec := { name := "reviseStarts", fn := fun _ => fun
  | [d1, d2, d3] => { results := [.lit (.bool true)], args := [d1, d2, d3] }
  | _ => none }
def reviseStartsRow : OpenClaim := { program := "ytpkdlljefkbmpaa", sum := "c969e274b4b782fcc234497b485bd09523880ade1fe5a32db5f9f64c94dc22f7", func := "sixdot/sixdotlaw07.ReviseStarts", spec := "reviseStarts", unfollowed := true, recurses := true, plainKeys := false, apart := false }
def ReviseStartsSaid : Prop := reviseStartsRow.holds Try.pinned (OpenSpec.ofChange reviseStartsSpec)

/-- ITS FALSE NEIGHBOUR: 'it returns false'. Refute it at one input. -/
def reviseStartsWrong : ChangeSpec := { name := "reviseStarts", fn := fun _ => fun
  | [d1, d2, d3] => { results := [.lit (.bool false)], args := [d1, d2, d3] }
  | _ => none }
def ReviseStartsWrongFalsely : Prop := reviseStartsRow.holds Try.pinned (OpenSpec.ofChange reviseStartsWrong)

/-- 'sixdotlaw07.ReviseChanges': WHATEVER THE INPUT: true; the input reads as it did. -/
def reviseChangesSpec : ChangeSpec := { name := "reviseChanges", fn := fun _ => fun
  | [d1, d2, d3] => { results := [.lit (.bool true)], args := [d1, d2, d3] }
  | _ => none }
def reviseChangesRow : OpenClaim := { program := "ytpkdlljefkbmpaa", sum := "c969e274b4b782fcc234497b485bd09523880ade1fe5a32db5f9f64c94dc22f7", func := "sixdot/sixdotlaw07.ReviseChanges", spec := "reviseChanges", unfollowed := true, recurses := true, plainKeys := false, apart := false }
def ReviseChangesSaid : Prop := reviseChangesRow.holds Try.pinned (OpenSpec.ofChange reviseChangesSpec)

/-- ITS FALSE NEIGHBOUR: 'it returns false'. Refute it at one input. -/
def reviseChangesWrong : ChangeSpec := { name := "reviseChanges", fn := fun _ => fun
  | [d1, d2, d3] => { results := [.lit (.bool false)], args := [d1, d2, d3] }
  | _ => none }
def ReviseChangesWrongFalsely : Prop := reviseChangesRow.holds Try.pinned (OpenSpec.ofChange reviseChangesWrong)

/-- 'sixdotlaw07.ReviseScripts': WHATEVER THE INPUT: true; the input reads as it did. -/
def reviseScriptsSpec : ChangeSpec := { name := "reviseScripts", fn := fun _ => fun
  | [d1, d2, d3] => { results := [.lit (.bool true)], args := [d1, d2, d3] }
  | _ => none }
def reviseScriptsRow : OpenClaim := { program := "ytpkdlljefkbmpaa", sum := "c969e274b4b782fcc234497b485bd09523880ade1fe5a32db5f9f64c94dc22f7", func := "sixdot/sixdotlaw07.ReviseScripts", spec := "reviseScripts", unfollowed := true, recurses := true, plainKeys := false, apart := false }
def ReviseScriptsSaid : Prop := reviseScriptsRow.holds Try.pinned (OpenSpec.ofChange reviseScriptsSpec)

/-- ITS FALSE NEIGHBOUR: 'it returns false'. Refute it at one input. -/
def reviseScriptsWrong : ChangeSpec := { name := "reviseScripts", fn := fun _ => fun
  | [d1, d2, d3] => { results := [.lit (.bool false)], args := [d1, d2, d3] }
  | _ => none }
def ReviseScriptsWrongFalsely : Prop := reviseScriptsRow.holds Try.pinned (OpenSpec.ofChange reviseScriptsWrong)

/-- 'sixdotlaw07.ReviseResults': WHATEVER THE INPUT: true; the input reads as it did. -/
def reviseResultsSpec : ChangeSpec := { name := "reviseResults", fn := fun _ => fun
  | [d1, d2] => { results := [.lit (.bool true)], args := [d1, d2] }
  | _ => none }
def reviseResultsRow : OpenClaim := { program := "ytpkdlljefkbmpaa", sum := "c969e274b4b782fcc234497b485bd09523880ade1fe5a32db5f9f64c94dc22f7", func := "sixdot/sixdotlaw07.ReviseResults", spec := "reviseResults", unfollowed := true, recurses := true, plainKeys := false, apart := false }
def ReviseResultsSaid : Prop := reviseResultsRow.holds Try.pinned (OpenSpec.ofChange reviseResultsSpec)

/-- ITS FALSE NEIGHBOUR: 'it returns false'. Refute it at one input. -/
def reviseResultsWrong : ChangeSpec := { name := "reviseResults", fn := fun _ => fun
  | [d1, d2] => { results := [.lit (.bool false)], args := [d1, d2] }
  | _ => none }
def ReviseResultsWrongFalsely : Prop := reviseResultsRow.holds Try.pinned (OpenSpec.ofChange reviseResultsWrong)

/-- 'sixdotlaw07.ReviseWork': WHATEVER THE INPUT: true; the input reads as it did. -/
def reviseWorkSpec : ChangeSpec := { name := "reviseWork", fn := fun _ => fun
  | [d1, d2, d3] => { results := [.lit (.bool true)], args := [d1, d2, d3] }
  | _ => none }
def reviseWorkRow : OpenClaim := { program := "ytpkdlljefkbmpaa", sum := "c969e274b4b782fcc234497b485bd09523880ade1fe5a32db5f9f64c94dc22f7", func := "sixdot/sixdotlaw07.ReviseWork", spec := "reviseWork", unfollowed := true, recurses := true, plainKeys := false, apart := false }
def ReviseWorkSaid : Prop := reviseWorkRow.holds Try.pinned (OpenSpec.ofChange reviseWorkSpec)

/-- ITS FALSE NEIGHBOUR: 'it returns false'. Refute it at one input. -/
def reviseWorkWrong : ChangeSpec := { name := "reviseWork", fn := fun _ => fun
  | [d1, d2, d3] => { results := [.lit (.bool false)], args := [d1, d2, d3] }
  | _ => none }
def ReviseWorkWrongFalsely : Prop := reviseWorkRow.holds Try.pinned (OpenSpec.ofChange reviseWorkWrong)

/-- 'sixdotlaw07.ReviseRejects': WHATEVER THE INPUT: true; the input reads as it did. -/
def reviseRejectsSpec : ChangeSpec := { name := "reviseRejects", fn := fun _ => fun
  | [d1, d2, d3] => { results := [.lit (.bool true)], args := [d1, d2, d3] }
  | _ => none }
def reviseRejectsRow : OpenClaim := { program := "ytpkdlljefkbmpaa", sum := "c969e274b4b782fcc234497b485bd09523880ade1fe5a32db5f9f64c94dc22f7", func := "sixdot/sixdotlaw07.ReviseRejects", spec := "reviseRejects", unfollowed := true, recurses := true, plainKeys := false, apart := false }
def ReviseRejectsSaid : Prop := reviseRejectsRow.holds Try.pinned (OpenSpec.ofChange reviseRejectsSpec)

/-- ITS FALSE NEIGHBOUR: 'it returns false'. Refute it at one input. -/
def reviseRejectsWrong : ChangeSpec := { name := "reviseRejects", fn := fun _ => fun
  | [d1, d2, d3] => { results := [.lit (.bool false)], args := [d1, d2, d3] }
  | _ => none }
def ReviseRejectsWrongFalsely : Prop := reviseRejectsRow.holds Try.pinned (OpenSpec.ofChange reviseRejectsWrong)

/- THE SECOND FORM. 'bulk': how many values and letters a reading holds, each counted each time it is reached (what is shared counts as often as it is met; a slice's spare places count too). A statement '..UptoSaid' is the law's where the arguments, and the package variables that the reading takes, are together of bulk at most 1048576: NARROWER than '..Said'. Prove '..Said' where nothing that the law and all that it calls make is longer than what came in: it says more and counts as full. Else prove '..UptoSaid'. A law counts once. -/
mutual
def uptoBulk {H : Type} : DataW H → Nat
  | .lit (.string bytes) => bytes.length + 1
  | .lit _ => 1
  | .nil => 1
  | .ptr d => uptoBulk d + 1
  | .slice elems spare => uptoBulkAll elems + uptoBulkAll spare + 1
  | .agg parts => uptoBulkAll parts + 1
  | .iface _ d => uptoBulk d + 1
  | .map entries => uptoBulkEntries entries + 1
  | .held _ => 1
def uptoBulkAll {H : Type} : List (DataW H) → Nat
  | [] => 0
  | d :: r => uptoBulk d + uptoBulkAll r
def uptoBulkEntries {H : Type} : List (Lit × DataW H) → Nat
  | [] => 0
  | x :: r => uptoBulkEntry x + uptoBulkEntries r
def uptoBulkEntry {H : Type} : Lit × DataW H → Nat
  | (.string bytes, d) => bytes.length + uptoBulk d + 1
  | (_, d) => uptoBulk d + 1
 end
def uptoSmall : (H : Type) → List (DataW H) → Bool := fun _ ds => decide (uptoBulkAll ds ≤ 1048576)
def OpenSpec.upto (s : _root_.Go.ChangeSpec) : _root_.Go.OpenSpec := { _root_.Go.OpenSpec.ofChange s with cond := some uptoSmall }

/-- 'sixdotlaw04.ReadbackMatchesReference', WHERE WHAT IT READS IS OF BULK AT MOST 1048576: true; the input reads as it did. -/
def readbackMatchesReferenceUptoRow : OpenClaim := { program := "ytpkdlljefkbmpaa", sum := "c969e274b4b782fcc234497b485bd09523880ade1fe5a32db5f9f64c94dc22f7", func := "sixdot/sixdotlaw04.ReadbackMatchesReference", spec := "readbackMatchesReference", unfollowed := true, recurses := true, plainKeys := false, apart := false, narrowed := true }
def ReadbackMatchesReferenceUptoSaid : Prop := readbackMatchesReferenceUptoRow.holds Try.pinned (OpenSpec.upto readbackMatchesReferenceSpec)

/-- 'sixdotlaw04.ReadbackReadsPaths', WHERE WHAT IT READS IS OF BULK AT MOST 1048576: true; the input reads as it did. -/
def readbackReadsPathsUptoRow : OpenClaim := { program := "ytpkdlljefkbmpaa", sum := "c969e274b4b782fcc234497b485bd09523880ade1fe5a32db5f9f64c94dc22f7", func := "sixdot/sixdotlaw04.ReadbackReadsPaths", spec := "readbackReadsPaths", unfollowed := true, recurses := true, plainKeys := false, apart := false, narrowed := true }
def ReadbackReadsPathsUptoSaid : Prop := readbackReadsPathsUptoRow.holds Try.pinned (OpenSpec.upto readbackReadsPathsSpec)

/-- 'sixdotlaw04.ReadbackOrders', WHERE WHAT IT READS IS OF BULK AT MOST 1048576: true; the input reads as it did. -/
def readbackOrdersUptoRow : OpenClaim := { program := "ytpkdlljefkbmpaa", sum := "c969e274b4b782fcc234497b485bd09523880ade1fe5a32db5f9f64c94dc22f7", func := "sixdot/sixdotlaw04.ReadbackOrders", spec := "readbackOrders", unfollowed := true, recurses := true, plainKeys := false, apart := false, narrowed := true }
def ReadbackOrdersUptoSaid : Prop := readbackOrdersUptoRow.holds Try.pinned (OpenSpec.upto readbackOrdersSpec)

/-- 'sixdotlaw04.ReadbackBeginnings', WHERE WHAT IT READS IS OF BULK AT MOST 1048576: true; the input reads as it did. -/
def readbackBeginningsUptoRow : OpenClaim := { program := "ytpkdlljefkbmpaa", sum := "c969e274b4b782fcc234497b485bd09523880ade1fe5a32db5f9f64c94dc22f7", func := "sixdot/sixdotlaw04.ReadbackBeginnings", spec := "readbackBeginnings", unfollowed := true, recurses := true, plainKeys := false, apart := false, narrowed := true }
def ReadbackBeginningsUptoSaid : Prop := readbackBeginningsUptoRow.holds Try.pinned (OpenSpec.upto readbackBeginningsSpec)

/-- 'sixdotlaw04.ReadbackNeedsPaths', WHERE WHAT IT READS IS OF BULK AT MOST 1048576: true; the input reads as it did. -/
def readbackNeedsPathsUptoRow : OpenClaim := { program := "ytpkdlljefkbmpaa", sum := "c969e274b4b782fcc234497b485bd09523880ade1fe5a32db5f9f64c94dc22f7", func := "sixdot/sixdotlaw04.ReadbackNeedsPaths", spec := "readbackNeedsPaths", unfollowed := true, recurses := true, plainKeys := false, apart := false, narrowed := true }
def ReadbackNeedsPathsUptoSaid : Prop := readbackNeedsPathsUptoRow.holds Try.pinned (OpenSpec.upto readbackNeedsPathsSpec)

/-- 'sixdotlaw06.TranslateMatchesReference', WHERE WHAT IT READS IS OF BULK AT MOST 1048576: true; the input reads as it did. -/
def translateMatchesReferenceUptoRow : OpenClaim := { program := "ytpkdlljefkbmpaa", sum := "c969e274b4b782fcc234497b485bd09523880ade1fe5a32db5f9f64c94dc22f7", func := "sixdot/sixdotlaw06.TranslateMatchesReference", spec := "translateMatchesReference", unfollowed := true, recurses := true, plainKeys := false, apart := false, narrowed := true }
def TranslateMatchesReferenceUptoSaid : Prop := translateMatchesReferenceUptoRow.holds Try.pinned (OpenSpec.upto translateMatchesReferenceSpec)

/-- 'sixdotlaw06.TranslateRefuses', WHERE WHAT IT READS IS OF BULK AT MOST 1048576: true; the input reads as it did. -/
def translateRefusesUptoRow : OpenClaim := { program := "ytpkdlljefkbmpaa", sum := "c969e274b4b782fcc234497b485bd09523880ade1fe5a32db5f9f64c94dc22f7", func := "sixdot/sixdotlaw06.TranslateRefuses", spec := "translateRefuses", unfollowed := true, recurses := true, plainKeys := false, apart := false, narrowed := true }
def TranslateRefusesUptoSaid : Prop := translateRefusesUptoRow.holds Try.pinned (OpenSpec.upto translateRefusesSpec)

/-- 'sixdotlaw07.ReviseStarts', WHERE WHAT IT READS IS OF BULK AT MOST 1048576: true; the input reads as it did. -/
def reviseStartsUptoRow : OpenClaim := { program := "ytpkdlljefkbmpaa", sum := "c969e274b4b782fcc234497b485bd09523880ade1fe5a32db5f9f64c94dc22f7", func := "sixdot/sixdotlaw07.ReviseStarts", spec := "reviseStarts", unfollowed := true, recurses := true, plainKeys := false, apart := false, narrowed := true }
def ReviseStartsUptoSaid : Prop := reviseStartsUptoRow.holds Try.pinned (OpenSpec.upto reviseStartsSpec)

/-- 'sixdotlaw07.ReviseChanges', WHERE WHAT IT READS IS OF BULK AT MOST 1048576: true; the input reads as it did. -/
def reviseChangesUptoRow : OpenClaim := { program := "ytpkdlljefkbmpaa", sum := "c969e274b4b782fcc234497b485bd09523880ade1fe5a32db5f9f64c94dc22f7", func := "sixdot/sixdotlaw07.ReviseChanges", spec := "reviseChanges", unfollowed := true, recurses := true, plainKeys := false, apart := false, narrowed := true }
def ReviseChangesUptoSaid : Prop := reviseChangesUptoRow.holds Try.pinned (OpenSpec.upto reviseChangesSpec)

/-- 'sixdotlaw07.ReviseScripts', WHERE WHAT IT READS IS OF BULK AT MOST 1048576: true; the input reads as it did. -/
def reviseScriptsUptoRow : OpenClaim := { program := "ytpkdlljefkbmpaa", sum := "c969e274b4b782fcc234497b485bd09523880ade1fe5a32db5f9f64c94dc22f7", func := "sixdot/sixdotlaw07.ReviseScripts", spec := "reviseScripts", unfollowed := true, recurses := true, plainKeys := false, apart := false, narrowed := true }
def ReviseScriptsUptoSaid : Prop := reviseScriptsUptoRow.holds Try.pinned (OpenSpec.upto reviseScriptsSpec)

/-- 'sixdotlaw07.ReviseResults', WHERE WHAT IT READS IS OF BULK AT MOST 1048576: true; the input reads as it did. -/
def reviseResultsUptoRow : OpenClaim := { program := "ytpkdlljefkbmpaa", sum := "c969e274b4b782fcc234497b485bd09523880ade1fe5a32db5f9f64c94dc22f7", func := "sixdot/sixdotlaw07.ReviseResults", spec := "reviseResults", unfollowed := true, recurses := true, plainKeys := false, apart := false, narrowed := true }
def ReviseResultsUptoSaid : Prop := reviseResultsUptoRow.holds Try.pinned (OpenSpec.upto reviseResultsSpec)

/-- 'sixdotlaw07.ReviseWork', WHERE WHAT IT READS IS OF BULK AT MOST 1048576: true; the input reads as it did. -/
def reviseWorkUptoRow : OpenClaim := { program := "ytpkdlljefkbmpaa", sum := "c969e274b4b782fcc234497b485bd09523880ade1fe5a32db5f9f64c94dc22f7", func := "sixdot/sixdotlaw07.ReviseWork", spec := "reviseWork", unfollowed := true, recurses := true, plainKeys := false, apart := false, narrowed := true }
def ReviseWorkUptoSaid : Prop := reviseWorkUptoRow.holds Try.pinned (OpenSpec.upto reviseWorkSpec)

/-- 'sixdotlaw07.ReviseRejects', WHERE WHAT IT READS IS OF BULK AT MOST 1048576: true; the input reads as it did. -/
def reviseRejectsUptoRow : OpenClaim := { program := "ytpkdlljefkbmpaa", sum := "c969e274b4b782fcc234497b485bd09523880ade1fe5a32db5f9f64c94dc22f7", func := "sixdot/sixdotlaw07.ReviseRejects", spec := "reviseRejects", unfollowed := true, recurses := true, plainKeys := false, apart := false, narrowed := true }
def ReviseRejectsUptoSaid : Prop := reviseRejectsUptoRow.holds Try.pinned (OpenSpec.upto reviseRejectsSpec)

end Rows
end Go.Proofs.Ytpkdlljefkbmpaa
