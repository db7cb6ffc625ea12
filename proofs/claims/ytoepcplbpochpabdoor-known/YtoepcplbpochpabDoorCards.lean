/-
  DERIVED. GIVEN WITH THE SEED: THE CARDS: each row of YtoepcplbpochpabDoorRows.lean that lists a variable, with what it lists TIED to the program's text (the seventh form; the later family's looks); each row that meets fmt, with fmt's text TOLD by the authors' own Lean function (tested against real Go, not proved from fmt's source: count such statements apart). THE CARD IS WHAT COUNTS. Prove the row's statement (the work); the ties are given (YtoepcplbpochpabDoorTie.lean); close each card by the builder's one call (the guide's Derived/Test/ToyasCard.lean, 'card_holds'). Laid BY PROGRAM, IN A SANDBOX (cutbox-door.mjs). By AI agents, Wed Nov 11 2026. No macro, syntax, notation, axiom, sorry.
-/
import Derived.Test.YtoepcplbpochpabDoorRows
import GoSem.ClaimSeven
namespace Go.Proofs.YtoepcplbpochpabDoor
namespace Rows

/-- THE TIED CARD OF 'lodgekeep.Shown'. -/
def shownCard : Claim7 := { stood := { row := shownRow, standIns := [], harness := (true, "547b1bcfed657df1afad4254796a45081cfafdce423bf5fed8fa413839647de9"), looks := false }, kinds := [], alts := [], laidByText := true, laidKinds := [.data], laidTests := true, laidLooks := .later }
def ShownCardSaid : Prop := Claim7.holds Tryd.pinned (.plain (OpenSpec.ofChange shownSpec)) shownCard

/-- THE TIED CARD OF 'lodgekeep.Plain'. -/
def plainCard : Claim7 := { stood := { row := plainRow, standIns := [], harness := (true, "547b1bcfed657df1afad4254796a45081cfafdce423bf5fed8fa413839647de9"), looks := false }, kinds := [], alts := [], laidByText := true, laidKinds := [.data], laidTests := true, laidLooks := .later }
def PlainCardSaid : Prop := Claim7.holds Tryd.pinned (.plain (OpenSpec.ofChange plainSpec)) plainCard

/-- THE TIED CARD OF 'lodgekeep.Roomy'. -/
def roomyCard : Claim7 := { stood := { row := roomyRow, standIns := [], harness := (true, "547b1bcfed657df1afad4254796a45081cfafdce423bf5fed8fa413839647de9"), looks := false }, kinds := [], alts := [], laidByText := true, laidKinds := [.data], laidTests := true, laidLooks := .later }
def RoomyCardSaid : Prop := Claim7.holds Tryd.pinned (.plain (OpenSpec.ofChange roomySpec)) roomyCard

/-- THE TIED CARD OF 'lodgekeep.Longer'. -/
def longerCard : Claim7 := { stood := { row := longerRow, standIns := [], harness := (true, "547b1bcfed657df1afad4254796a45081cfafdce423bf5fed8fa413839647de9"), looks := false }, kinds := [], alts := [], laidByText := true, laidKinds := [.data], laidTests := true, laidLooks := .later }
def LongerCardSaid : Prop := Claim7.holds Tryd.pinned (.plain (OpenSpec.ofChange longerSpec)) longerCard

/-- THE TIED CARD OF 'lodgekeep.Known'. -/
def knownCard : Claim7 := { stood := { row := knownRow, standIns := [], harness := (true, "547b1bcfed657df1afad4254796a45081cfafdce423bf5fed8fa413839647de9"), looks := false }, kinds := [], alts := [], laidByText := true, laidKinds := [.data], laidTests := true, laidLooks := .later }
def KnownCardSaid : Prop := Claim7.holds Tryd.pinned (.plain (OpenSpec.ofChange knownSpec)) knownCard

/-- THE SECOND FORM's CARD OF 'lodgekeep.Shown'. -/
def shownUptoCard : Claim7 := { stood := { row := shownUptoRow, standIns := [], harness := (true, "547b1bcfed657df1afad4254796a45081cfafdce423bf5fed8fa413839647de9"), looks := false }, kinds := [], alts := [], laidByText := true, laidKinds := [.data], laidTests := true, laidLooks := .later }
def ShownUptoCardSaid : Prop := Claim7.holds Tryd.pinned (.plain (OpenSpec.upto shownSpec)) shownUptoCard

/-- THE SECOND FORM's CARD OF 'lodgekeep.Plain'. -/
def plainUptoCard : Claim7 := { stood := { row := plainUptoRow, standIns := [], harness := (true, "547b1bcfed657df1afad4254796a45081cfafdce423bf5fed8fa413839647de9"), looks := false }, kinds := [], alts := [], laidByText := true, laidKinds := [.data], laidTests := true, laidLooks := .later }
def PlainUptoCardSaid : Prop := Claim7.holds Tryd.pinned (.plain (OpenSpec.upto plainSpec)) plainUptoCard

/-- THE SECOND FORM's CARD OF 'lodgekeep.Roomy'. -/
def roomyUptoCard : Claim7 := { stood := { row := roomyUptoRow, standIns := [], harness := (true, "547b1bcfed657df1afad4254796a45081cfafdce423bf5fed8fa413839647de9"), looks := false }, kinds := [], alts := [], laidByText := true, laidKinds := [.data], laidTests := true, laidLooks := .later }
def RoomyUptoCardSaid : Prop := Claim7.holds Tryd.pinned (.plain (OpenSpec.upto roomySpec)) roomyUptoCard

/-- THE SECOND FORM's CARD OF 'lodgekeep.Longer'. -/
def longerUptoCard : Claim7 := { stood := { row := longerUptoRow, standIns := [], harness := (true, "547b1bcfed657df1afad4254796a45081cfafdce423bf5fed8fa413839647de9"), looks := false }, kinds := [], alts := [], laidByText := true, laidKinds := [.data], laidTests := true, laidLooks := .later }
def LongerUptoCardSaid : Prop := Claim7.holds Tryd.pinned (.plain (OpenSpec.upto longerSpec)) longerUptoCard

/-- THE SECOND FORM's CARD OF 'lodgekeep.Known'. -/
def knownUptoCard : Claim7 := { stood := { row := knownUptoRow, standIns := [], harness := (true, "547b1bcfed657df1afad4254796a45081cfafdce423bf5fed8fa413839647de9"), looks := false }, kinds := [], alts := [], laidByText := true, laidKinds := [.data], laidTests := true, laidLooks := .later }
def KnownUptoCardSaid : Prop := Claim7.holds Tryd.pinned (.plain (OpenSpec.upto knownSpec)) knownUptoCard
end Rows
end Go.Proofs.YtoepcplbpochpabDoor
