/-
  DERIVED. GIVEN WITH THE SEED: THE CARDS: each row of YtnpbajhlhkmljaaDoorRows.lean that lists a variable, with what it lists TIED to the program's text (the seventh form; the later family's looks); each row that meets fmt, with fmt's text TOLD by the authors' own Lean function (tested against real Go, not proved from fmt's source: count such statements apart). THE CARD IS WHAT COUNTS. Prove the row's statement (the work); the ties are given (YtnpbajhlhkmljaaDoorTie.lean); close each card by the builder's one call (the guide's Derived/Test/ToyasCard.lean, 'card_holds'). Laid BY PROGRAM, IN A SANDBOX (cutbox-door.mjs). By AI agents, Wed Nov 11 2026. No macro, syntax, notation, axiom, sorry.
-/
import Derived.Test.YtnpbajhlhkmljaaDoorRows
import GoSem.ClaimSeven
namespace Go.Proofs.YtnpbajhlhkmljaaDoor
namespace Rows

/-- THE TIED CARD OF 'lodgelaw.Checks'. -/
def checksCard : Claim7 := { stood := { row := checksRow, standIns := [], harness := (true, "2edf1905563d94168f745abe973fb7fb342307da7ceb87b3b9523fd1d93d0c3f"), looks := false }, kinds := [], alts := [], laidByText := true, laidKinds := [.data], laidTests := true, laidLooks := .later }
def ChecksCardSaid : Prop := Claim7.holds Tryd.pinned (.plain (OpenSpec.ofChange checksSpec)) checksCard

/-- THE TIED CARD OF 'lodgelaw.Runs'. -/
def runsCard : Claim7 := { stood := { row := runsRow, standIns := [], harness := (true, "2edf1905563d94168f745abe973fb7fb342307da7ceb87b3b9523fd1d93d0c3f"), looks := false }, kinds := [], alts := [], laidByText := true, laidKinds := [.data], laidTests := true, laidLooks := .later }
def RunsCardSaid : Prop := Claim7.holds Tryd.pinned (.plain (OpenSpec.ofChange runsSpec)) runsCard

/-- THE TIED CARD OF 'lodgelaw.Units'. -/
def unitsCard : Claim7 := { stood := { row := unitsRow, standIns := [], harness := (true, "2edf1905563d94168f745abe973fb7fb342307da7ceb87b3b9523fd1d93d0c3f"), looks := false }, kinds := [], alts := [], laidByText := true, laidKinds := [.data], laidTests := true, laidLooks := .later }
def UnitsCardSaid : Prop := Claim7.holds Tryd.pinned (.plain (OpenSpec.ofChange unitsSpec)) unitsCard

/-- THE SECOND FORM's CARD OF 'lodgelaw.Checks'. -/
def checksUptoCard : Claim7 := { stood := { row := checksUptoRow, standIns := [], harness := (true, "2edf1905563d94168f745abe973fb7fb342307da7ceb87b3b9523fd1d93d0c3f"), looks := false }, kinds := [], alts := [], laidByText := true, laidKinds := [.data], laidTests := true, laidLooks := .later }
def ChecksUptoCardSaid : Prop := Claim7.holds Tryd.pinned (.plain (OpenSpec.upto checksSpec)) checksUptoCard

/-- THE SECOND FORM's CARD OF 'lodgelaw.Runs'. -/
def runsUptoCard : Claim7 := { stood := { row := runsUptoRow, standIns := [], harness := (true, "2edf1905563d94168f745abe973fb7fb342307da7ceb87b3b9523fd1d93d0c3f"), looks := false }, kinds := [], alts := [], laidByText := true, laidKinds := [.data], laidTests := true, laidLooks := .later }
def RunsUptoCardSaid : Prop := Claim7.holds Tryd.pinned (.plain (OpenSpec.upto runsSpec)) runsUptoCard

/-- THE SECOND FORM's CARD OF 'lodgelaw.Units'. -/
def unitsUptoCard : Claim7 := { stood := { row := unitsUptoRow, standIns := [], harness := (true, "2edf1905563d94168f745abe973fb7fb342307da7ceb87b3b9523fd1d93d0c3f"), looks := false }, kinds := [], alts := [], laidByText := true, laidKinds := [.data], laidTests := true, laidLooks := .later }
def UnitsUptoCardSaid : Prop := Claim7.holds Tryd.pinned (.plain (OpenSpec.upto unitsSpec)) unitsUptoCard
end Rows
end Go.Proofs.YtnpbajhlhkmljaaDoor
