/-
  DERIVED. GIVEN WITH THE SEED: THE CARDS: each row of YtiedaongfjcbhabGreatDoorRows.lean that lists a variable, with what it lists TIED to the program's text (the seventh form; the later family's looks); each row that meets fmt, with fmt's text TOLD by the authors' own Lean function (tested against real Go, not proved from fmt's source: count such statements apart). THE CARD IS WHAT COUNTS. Prove the row's statement (the work); the ties are given (YtiedaongfjcbhabGreatDoorTie.lean); close each card by the builder's one call (the guide's Derived/Test/ToyasCard.lean, 'card_holds'). Laid BY PROGRAM, IN A SANDBOX (cutbox-door.mjs). By AI agents, Wed Nov 11 2026. No macro, syntax, notation, axiom, sorry.
-/
import Derived.Test.YtiedaongfjcbhabGreatDoorRows
import GoSem.ClaimSeven
namespace Go.Proofs.YtiedaongfjcbhabGreatDoor
namespace Rows

/-- THE TIED CARD OF 'sixdotlaw02.TableRoundTrips'. -/
def tableRoundTripsCard : Claim7 := { stood := { row := tableRoundTripsRow, standIns := [], harness := (true, "292262042c35edbf07bcad9943f01068e8efc9589d8d29cd5ee0604b4e9699b2"), looks := true }, kinds := [], alts := [], laidByText := true, laidKinds := [.data, .data, .data, .sentinel, .sentinel], laidTests := true, laidLooks := .later }
def TableRoundTripsCardSaid : Prop := Claim7.holds Tryz.pinned (.plain (OpenSpec.ofChange tableRoundTripsSpec)) tableRoundTripsCard

/-- THE SECOND FORM's CARD OF 'sixdotlaw02.TableRoundTrips'. -/
def tableRoundTripsUptoCard : Claim7 := { stood := { row := tableRoundTripsUptoRow, standIns := [], harness := (true, "292262042c35edbf07bcad9943f01068e8efc9589d8d29cd5ee0604b4e9699b2"), looks := true }, kinds := [], alts := [], laidByText := true, laidKinds := [.data, .data, .data, .sentinel, .sentinel], laidTests := true, laidLooks := .later }
def TableRoundTripsUptoCardSaid : Prop := Claim7.holds Tryz.pinned (.plain (OpenSpec.upto tableRoundTripsSpec)) tableRoundTripsUptoCard
end Rows
end Go.Proofs.YtiedaongfjcbhabGreatDoor
