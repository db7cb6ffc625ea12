/-
  DERIVED. GIVEN WITH THE SEED: THE CARDS: each row of YtoepcplbpochpaaDoorRows.lean that lists a variable, with what it lists TIED to the program's text (the seventh form; the later family's looks); each row that meets fmt, with fmt's text TOLD by the authors' own Lean function (tested against real Go, not proved from fmt's source: count such statements apart). THE CARD IS WHAT COUNTS. Prove the row's statement (the work); the ties are given (YtoepcplbpochpaaDoorTie.lean); close each card by the builder's one call (the guide's Derived/Test/ToyasCard.lean, 'card_holds'). Laid BY PROGRAM, IN A SANDBOX (cutbox-door.mjs). By AI agents, Wed Nov 11 2026. No macro, syntax, notation, axiom, sorry.
-/
import Derived.Test.YtoepcplbpochpaaDoorRows
import GoSem.ClaimSeven
namespace Go.Proofs.YtoepcplbpochpaaDoor
namespace Rows

/-- THE TIED CARD OF 'lodgelaw.Checks'. -/
def checksCard : Claim7 := { stood := { row := checksRow, standIns := [], harness := (true, "f9a29037940c574d6341b0499574fd24eaec2641ee81379986cf360f2307c55f"), looks := false }, kinds := [], alts := [], laidByText := true, laidKinds := [.data], laidTests := true, laidLooks := .later }
def ChecksCardSaid : Prop := Claim7.holds Tryd.pinned (.plain (OpenSpec.ofChange checksSpec)) checksCard

/-- THE TIED CARD OF 'lodgelaw.Runs'. -/
def runsCard : Claim7 := { stood := { row := runsRow, standIns := [], harness := (true, "f9a29037940c574d6341b0499574fd24eaec2641ee81379986cf360f2307c55f"), looks := false }, kinds := [], alts := [], laidByText := true, laidKinds := [.data], laidTests := true, laidLooks := .later }
def RunsCardSaid : Prop := Claim7.holds Tryd.pinned (.plain (OpenSpec.ofChange runsSpec)) runsCard

/-- THE TIED CARD OF 'lodgelaw.Units'. -/
def unitsCard : Claim7 := { stood := { row := unitsRow, standIns := [], harness := (true, "f9a29037940c574d6341b0499574fd24eaec2641ee81379986cf360f2307c55f"), looks := false }, kinds := [], alts := [], laidByText := true, laidKinds := [.data], laidTests := true, laidLooks := .later }
def UnitsCardSaid : Prop := Claim7.holds Tryd.pinned (.plain (OpenSpec.ofChange unitsSpec)) unitsCard

/-- THE TIED CARD OF 'lodgelaw.Makes'. -/
def makesCard : Claim7 := { stood := { row := makesRow, standIns := [], harness := (true, "f9a29037940c574d6341b0499574fd24eaec2641ee81379986cf360f2307c55f"), looks := false }, kinds := [], alts := [], laidByText := true, laidKinds := [.data], laidTests := true, laidLooks := .later }
def MakesCardSaid : Prop := Claim7.holds Tryd.pinned (.plain (OpenSpec.ofChange makesSpec)) makesCard

/-- THE TIED CARD OF 'lodgelaw.Means'. -/
def meansCard : Claim7 := { stood := { row := meansRow, standIns := [], harness := (true, "f9a29037940c574d6341b0499574fd24eaec2641ee81379986cf360f2307c55f"), looks := false }, kinds := [], alts := [], laidByText := true, laidKinds := [.data], laidTests := true, laidLooks := .later }
def MeansCardSaid : Prop := Claim7.holds Tryd.pinned (.plain (OpenSpec.ofChange meansSpec)) meansCard

/-- THE TIED CARD OF 'lodgelaw.Told'. -/
def toldCard : Claim7 := { stood := { row := toldRow, standIns := [], harness := (true, "f9a29037940c574d6341b0499574fd24eaec2641ee81379986cf360f2307c55f"), looks := false }, kinds := [], alts := [], laidByText := true, laidKinds := [.data], laidTests := true, laidLooks := .later }
def ToldCardSaid : Prop := Claim7.holds Tryd.pinned (.plain (OpenSpec.ofChange toldSpec)) toldCard

/-- THE TIED CARD OF 'lodgekeep.Same'. -/
def sameCard : Claim7 := { stood := { row := sameRow, standIns := [], harness := (true, "f9a29037940c574d6341b0499574fd24eaec2641ee81379986cf360f2307c55f"), looks := false }, kinds := [], alts := [], laidByText := true, laidKinds := [.data], laidTests := true, laidLooks := .later }
def SameCardSaid : Prop := Claim7.holds Tryd.pinned (.plain (OpenSpec.ofChange sameSpec)) sameCard

/-- THE TIED CARD OF 'lodgekeep.True'. -/
def trueCard : Claim7 := { stood := { row := trueRow, standIns := [], harness := (true, "f9a29037940c574d6341b0499574fd24eaec2641ee81379986cf360f2307c55f"), looks := false }, kinds := [], alts := [], laidByText := true, laidKinds := [.data], laidTests := true, laidLooks := .later }
def TrueCardSaid : Prop := Claim7.holds Tryd.pinned (.plain (OpenSpec.ofChange trueSpec)) trueCard

/-- THE SECOND FORM's CARD OF 'lodgelaw.Checks'. -/
def checksUptoCard : Claim7 := { stood := { row := checksUptoRow, standIns := [], harness := (true, "f9a29037940c574d6341b0499574fd24eaec2641ee81379986cf360f2307c55f"), looks := false }, kinds := [], alts := [], laidByText := true, laidKinds := [.data], laidTests := true, laidLooks := .later }
def ChecksUptoCardSaid : Prop := Claim7.holds Tryd.pinned (.plain (OpenSpec.upto checksSpec)) checksUptoCard

/-- THE SECOND FORM's CARD OF 'lodgelaw.Runs'. -/
def runsUptoCard : Claim7 := { stood := { row := runsUptoRow, standIns := [], harness := (true, "f9a29037940c574d6341b0499574fd24eaec2641ee81379986cf360f2307c55f"), looks := false }, kinds := [], alts := [], laidByText := true, laidKinds := [.data], laidTests := true, laidLooks := .later }
def RunsUptoCardSaid : Prop := Claim7.holds Tryd.pinned (.plain (OpenSpec.upto runsSpec)) runsUptoCard

/-- THE SECOND FORM's CARD OF 'lodgelaw.Units'. -/
def unitsUptoCard : Claim7 := { stood := { row := unitsUptoRow, standIns := [], harness := (true, "f9a29037940c574d6341b0499574fd24eaec2641ee81379986cf360f2307c55f"), looks := false }, kinds := [], alts := [], laidByText := true, laidKinds := [.data], laidTests := true, laidLooks := .later }
def UnitsUptoCardSaid : Prop := Claim7.holds Tryd.pinned (.plain (OpenSpec.upto unitsSpec)) unitsUptoCard

/-- THE SECOND FORM's CARD OF 'lodgelaw.Makes'. -/
def makesUptoCard : Claim7 := { stood := { row := makesUptoRow, standIns := [], harness := (true, "f9a29037940c574d6341b0499574fd24eaec2641ee81379986cf360f2307c55f"), looks := false }, kinds := [], alts := [], laidByText := true, laidKinds := [.data], laidTests := true, laidLooks := .later }
def MakesUptoCardSaid : Prop := Claim7.holds Tryd.pinned (.plain (OpenSpec.upto makesSpec)) makesUptoCard

/-- THE SECOND FORM's CARD OF 'lodgelaw.Means'. -/
def meansUptoCard : Claim7 := { stood := { row := meansUptoRow, standIns := [], harness := (true, "f9a29037940c574d6341b0499574fd24eaec2641ee81379986cf360f2307c55f"), looks := false }, kinds := [], alts := [], laidByText := true, laidKinds := [.data], laidTests := true, laidLooks := .later }
def MeansUptoCardSaid : Prop := Claim7.holds Tryd.pinned (.plain (OpenSpec.upto meansSpec)) meansUptoCard

/-- THE SECOND FORM's CARD OF 'lodgelaw.Told'. -/
def toldUptoCard : Claim7 := { stood := { row := toldUptoRow, standIns := [], harness := (true, "f9a29037940c574d6341b0499574fd24eaec2641ee81379986cf360f2307c55f"), looks := false }, kinds := [], alts := [], laidByText := true, laidKinds := [.data], laidTests := true, laidLooks := .later }
def ToldUptoCardSaid : Prop := Claim7.holds Tryd.pinned (.plain (OpenSpec.upto toldSpec)) toldUptoCard

/-- THE SECOND FORM's CARD OF 'lodgekeep.Same'. -/
def sameUptoCard : Claim7 := { stood := { row := sameUptoRow, standIns := [], harness := (true, "f9a29037940c574d6341b0499574fd24eaec2641ee81379986cf360f2307c55f"), looks := false }, kinds := [], alts := [], laidByText := true, laidKinds := [.data], laidTests := true, laidLooks := .later }
def SameUptoCardSaid : Prop := Claim7.holds Tryd.pinned (.plain (OpenSpec.upto sameSpec)) sameUptoCard

/-- THE SECOND FORM's CARD OF 'lodgekeep.True'. -/
def trueUptoCard : Claim7 := { stood := { row := trueUptoRow, standIns := [], harness := (true, "f9a29037940c574d6341b0499574fd24eaec2641ee81379986cf360f2307c55f"), looks := false }, kinds := [], alts := [], laidByText := true, laidKinds := [.data], laidTests := true, laidLooks := .later }
def TrueUptoCardSaid : Prop := Claim7.holds Tryd.pinned (.plain (OpenSpec.upto trueSpec)) trueUptoCard
end Rows
end Go.Proofs.YtoepcplbpochpaaDoor
