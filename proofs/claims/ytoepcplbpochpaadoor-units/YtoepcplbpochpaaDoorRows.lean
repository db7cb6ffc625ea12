/-
  NARROWER THAN 'FOR EVERY INPUT', by the rows' own cells (each row's printed sentence says how): Checks: laid · Runs: laid · Units: laid · Makes: laid · Means: laid · Told: laid · Same: laid · True: laid.
  DERIVED. THE GIVEN ROWS OF THIS SEAT. 8 by the template 'for every input the law returns true; each argument reads behind the call as it read before'; 0 by the template 'total and deterministic' (their statements: YtoepcplbpochpaaDoorTotals.lean).
  GIVEN WITH THE SEED: the statements are not yours to turn. If you find one false, say at which input.
  Laid BY PROGRAM, IN A SANDBOX (cutbox-rows.mjs): the forced cells as the released guide's own fill.sh prints them over the translation 8bc4ea6c93485346… (all of the seat's roots in one cut). By AI agents, Wed Nov 11 2026. No macro, syntax, notation, axiom, sorry.
-/
import Derived.Test.YtoepcplbpochpaaDoorChecked
import GoSem.Claim
import GoSem.ClaimJoined
import GoSem.ClaimMapViews
import Derived.JoinedTies
import Derived.KernelRfl
namespace Go.Proofs.YtoepcplbpochpaaDoor
/- THE CELL 'sum', in the pinned program and in every row, IS THE sha256 OF THE DUMP (.gsa) THAT YtoepcplbpochpaaDoorProg.lean LOADS. Nothing in Lean hashes anything: it is a label: what it is worth is what the hold of that sum in a sandbox is worth. -/
noncomputable def Tryd.pinned : Pinned := { name := "ytoepcplbpochpaadoor", sum := "8bc4ea6c93485346d6a0737cbeb88621707a4c6491d4a07d8def031cbe97131c", checked := Tryd.checked }
namespace Rows
def none {H : Type} : Left H := { results := [], args := [] }

/- WHAT THE LISTED PACKAGE-LEVEL VARIABLES READ AS WHEN THE CALL BEGINS. Each datum BY PROGRAM (the guide's laid-datum.mjs) off the statement by which the dump's own 'gosem.cut.vars' lays the variable. In a bare row this is a premise. The card (YtoepcplbpochpaaDoorCards.lean) ties it to the program's text. -/
def laid_lodge_code_kinds {H : Type} : DataW H := .agg [.agg [.lit (.int .i64 1), .lit (.int .i64 2), .lit (.int .i64 0)], .agg [.lit (.int .i64 1), .lit (.int .i64 1), .lit (.int .i64 0)], .agg [.lit (.int .i64 1), .lit (.int .i64 1), .lit (.int .i64 1)], .agg [.lit (.int .i64 1), .lit (.int .i64 1), .lit (.int .i64 1)], .agg [.lit (.int .i64 1), .lit (.int .i64 1), .lit (.int .i64 1)], .agg [.lit (.int .i64 1), .lit (.int .i64 1), .lit (.int .i64 1)], .agg [.lit (.int .i64 1), .lit (.int .i64 1), .lit (.int .i64 1)], .agg [.lit (.int .i64 0), .lit (.int .i64 3), .lit (.int .i64 0)], .agg [.lit (.int .i64 0), .lit (.int .i64 1), .lit (.int .i64 3)], .agg [.lit (.int .i64 0), .lit (.int .i64 1), .lit (.int .i64 0)], .agg [.lit (.int .i64 0), .lit (.int .i64 1), .lit (.int .i64 0)], .agg [.lit (.int .i64 0), .lit (.int .i64 4), .lit (.int .i64 0)], .agg [.lit (.int .i64 5), .lit (.int .i64 1), .lit (.int .i64 0)], .agg [.lit (.int .i64 5), .lit (.int .i64 2), .lit (.int .i64 0)], .agg [.lit (.int .i64 5), .lit (.int .i64 0), .lit (.int .i64 0)], .agg [.lit (.int .i64 1), .lit (.int .i64 6), .lit (.int .i64 0)], .agg [.lit (.int .i64 6), .lit (.int .i64 1), .lit (.int .i64 0)]]

/-- 'lodgelaw.Checks': WHATEVER THE INPUT: true; the input reads as it did. -/
def checksSpec : ChangeSpec := { name := "checks", fn := fun _ => fun
  | [d1, d2] => { results := [.lit (.bool true)], args := [d1, d2] }
  | _ => none }
def checksRow : OpenClaim := { program := "ytoepcplbpochpaadoor", sum := "8bc4ea6c93485346d6a0737cbeb88621707a4c6491d4a07d8def031cbe97131c", func := "lodge/lodgelaw.Checks", spec := "checks", named := ["lodge/code.kinds"], apart := false, laid := [("lodge/code.kinds", laid_lodge_code_kinds)] }
def ChecksSaid : Prop := checksRow.holds Tryd.pinned (OpenSpec.ofChange checksSpec)

/-- ITS FALSE NEIGHBOUR: 'it returns false'. Refute it at one input. -/
def checksWrong : ChangeSpec := { name := "checks", fn := fun _ => fun
  | [d1, d2] => { results := [.lit (.bool false)], args := [d1, d2] }
  | _ => none }
def ChecksWrongFalsely : Prop := checksRow.holds Tryd.pinned (OpenSpec.ofChange checksWrong)

/-- 'lodgelaw.Runs': WHATEVER THE INPUT: true; the input reads as it did. -/
def runsSpec : ChangeSpec := { name := "runs", fn := fun _ => fun
  | [d1, d2, d3] => { results := [.lit (.bool true)], args := [d1, d2, d3] }
  | _ => none }
def runsRow : OpenClaim := { program := "ytoepcplbpochpaadoor", sum := "8bc4ea6c93485346d6a0737cbeb88621707a4c6491d4a07d8def031cbe97131c", func := "lodge/lodgelaw.Runs", spec := "runs", named := ["lodge/code.kinds"], apart := false, laid := [("lodge/code.kinds", laid_lodge_code_kinds)] }
def RunsSaid : Prop := runsRow.holds Tryd.pinned (OpenSpec.ofChange runsSpec)

/-- ITS FALSE NEIGHBOUR: 'it returns false'. Refute it at one input. -/
def runsWrong : ChangeSpec := { name := "runs", fn := fun _ => fun
  | [d1, d2, d3] => { results := [.lit (.bool false)], args := [d1, d2, d3] }
  | _ => none }
def RunsWrongFalsely : Prop := runsRow.holds Tryd.pinned (OpenSpec.ofChange runsWrong)

/-- 'lodgelaw.Units': WHATEVER THE INPUT: true; the input reads as it did. -/
def unitsSpec : ChangeSpec := { name := "units", fn := fun _ => fun
  | [d1, d2, d3] => { results := [.lit (.bool true)], args := [d1, d2, d3] }
  | _ => none }
def unitsRow : OpenClaim := { program := "ytoepcplbpochpaadoor", sum := "8bc4ea6c93485346d6a0737cbeb88621707a4c6491d4a07d8def031cbe97131c", func := "lodge/lodgelaw.Units", spec := "units", named := ["lodge/code.kinds"], apart := false, laid := [("lodge/code.kinds", laid_lodge_code_kinds)] }
def UnitsSaid : Prop := unitsRow.holds Tryd.pinned (OpenSpec.ofChange unitsSpec)

/-- ITS FALSE NEIGHBOUR: 'it returns false'. Refute it at one input. -/
def unitsWrong : ChangeSpec := { name := "units", fn := fun _ => fun
  | [d1, d2, d3] => { results := [.lit (.bool false)], args := [d1, d2, d3] }
  | _ => none }
def UnitsWrongFalsely : Prop := unitsRow.holds Tryd.pinned (OpenSpec.ofChange unitsWrong)

/-- 'lodgelaw.Makes': WHATEVER THE INPUT: true; the input reads as it did. -/
def makesSpec : ChangeSpec := { name := "makes", fn := fun _ => fun
  | [d1, d2] => { results := [.lit (.bool true)], args := [d1, d2] }
  | _ => none }
def makesRow : OpenClaim := { program := "ytoepcplbpochpaadoor", sum := "8bc4ea6c93485346d6a0737cbeb88621707a4c6491d4a07d8def031cbe97131c", func := "lodge/lodgelaw.Makes", spec := "makes", named := ["lodge/code.kinds"], apart := false, laid := [("lodge/code.kinds", laid_lodge_code_kinds)] }
def MakesSaid : Prop := makesRow.holds Tryd.pinned (OpenSpec.ofChange makesSpec)

/-- ITS FALSE NEIGHBOUR: 'it returns false'. Refute it at one input. -/
def makesWrong : ChangeSpec := { name := "makes", fn := fun _ => fun
  | [d1, d2] => { results := [.lit (.bool false)], args := [d1, d2] }
  | _ => none }
def MakesWrongFalsely : Prop := makesRow.holds Tryd.pinned (OpenSpec.ofChange makesWrong)

/-- 'lodgelaw.Means': WHATEVER THE INPUT: true; the input reads as it did. -/
def meansSpec : ChangeSpec := { name := "means", fn := fun _ => fun
  | [d1, d2, d3, d4, d5] => { results := [.lit (.bool true)], args := [d1, d2, d3, d4, d5] }
  | _ => none }
def meansRow : OpenClaim := { program := "ytoepcplbpochpaadoor", sum := "8bc4ea6c93485346d6a0737cbeb88621707a4c6491d4a07d8def031cbe97131c", func := "lodge/lodgelaw.Means", spec := "means", named := ["lodge/code.kinds"], apart := false, laid := [("lodge/code.kinds", laid_lodge_code_kinds)] }
def MeansSaid : Prop := meansRow.holds Tryd.pinned (OpenSpec.ofChange meansSpec)

/-- ITS FALSE NEIGHBOUR: 'it returns false'. Refute it at one input. -/
def meansWrong : ChangeSpec := { name := "means", fn := fun _ => fun
  | [d1, d2, d3, d4, d5] => { results := [.lit (.bool false)], args := [d1, d2, d3, d4, d5] }
  | _ => none }
def MeansWrongFalsely : Prop := meansRow.holds Tryd.pinned (OpenSpec.ofChange meansWrong)

/-- 'lodgelaw.Told': WHATEVER THE INPUT: true; the input reads as it did. -/
def toldSpec : ChangeSpec := { name := "told", fn := fun _ => fun
  | [d1, d2, d3, d4] => { results := [.lit (.bool true)], args := [d1, d2, d3, d4] }
  | _ => none }
def toldRow : OpenClaim := { program := "ytoepcplbpochpaadoor", sum := "8bc4ea6c93485346d6a0737cbeb88621707a4c6491d4a07d8def031cbe97131c", func := "lodge/lodgelaw.Told", spec := "told", named := ["lodge/code.kinds"], apart := false, laid := [("lodge/code.kinds", laid_lodge_code_kinds)] }
def ToldSaid : Prop := toldRow.holds Tryd.pinned (OpenSpec.ofChange toldSpec)

/-- ITS FALSE NEIGHBOUR: 'it returns false'. Refute it at one input. -/
def toldWrong : ChangeSpec := { name := "told", fn := fun _ => fun
  | [d1, d2, d3, d4] => { results := [.lit (.bool false)], args := [d1, d2, d3, d4] }
  | _ => none }
def ToldWrongFalsely : Prop := toldRow.holds Tryd.pinned (OpenSpec.ofChange toldWrong)

/-- 'lodgekeep.Same': WHATEVER THE INPUT: true; the input reads as it did. -/
def sameSpec : ChangeSpec := { name := "same", fn := fun _ => fun
  | [d1, d2, d3, d4, d5] => { results := [.lit (.bool true)], args := [d1, d2, d3, d4, d5] }
  | _ => none }
def sameRow : OpenClaim := { program := "ytoepcplbpochpaadoor", sum := "8bc4ea6c93485346d6a0737cbeb88621707a4c6491d4a07d8def031cbe97131c", func := "lodge/lodgekeep.Same", spec := "same", named := ["lodge/code.kinds"], apart := false, laid := [("lodge/code.kinds", laid_lodge_code_kinds)] }
def SameSaid : Prop := sameRow.holds Tryd.pinned (OpenSpec.ofChange sameSpec)

/-- ITS FALSE NEIGHBOUR: 'it returns false'. Refute it at one input. -/
def sameWrong : ChangeSpec := { name := "same", fn := fun _ => fun
  | [d1, d2, d3, d4, d5] => { results := [.lit (.bool false)], args := [d1, d2, d3, d4, d5] }
  | _ => none }
def SameWrongFalsely : Prop := sameRow.holds Tryd.pinned (OpenSpec.ofChange sameWrong)

/-- 'lodgekeep.True': WHATEVER THE INPUT: true; the input reads as it did. -/
def trueSpec : ChangeSpec := { name := "true", fn := fun _ => fun
  | [d1, d2, d3, d4] => { results := [.lit (.bool true)], args := [d1, d2, d3, d4] }
  | _ => none }
def trueRow : OpenClaim := { program := "ytoepcplbpochpaadoor", sum := "8bc4ea6c93485346d6a0737cbeb88621707a4c6491d4a07d8def031cbe97131c", func := "lodge/lodgekeep.True", spec := "true", named := ["lodge/code.kinds"], apart := false, laid := [("lodge/code.kinds", laid_lodge_code_kinds)] }
def TrueSaid : Prop := trueRow.holds Tryd.pinned (OpenSpec.ofChange trueSpec)

/-- ITS FALSE NEIGHBOUR: 'it returns false'. Refute it at one input. -/
def trueWrong : ChangeSpec := { name := "true", fn := fun _ => fun
  | [d1, d2, d3, d4] => { results := [.lit (.bool false)], args := [d1, d2, d3, d4] }
  | _ => none }
def TrueWrongFalsely : Prop := trueRow.holds Tryd.pinned (OpenSpec.ofChange trueWrong)

/- THE SECOND FORM. 'bulk': how many values and letters a reading holds, each counted each time it is reached (what is shared counts as often as it is met; a slice's spare places count too). A statement '..UptoSaid' is the law's where the arguments, and the package variables that the reading takes, are together of bulk at most 1048576: NARROWER than '..Said'. Prove '..Said' where nothing that the law and all that it calls make is longer than what came in: it says more and counts as full. Else prove '..UptoSaid'. A law counts once. -/
mutual
def uptoBulk {H : Type} : DataW H → Nat
  | .lit (.string bytes) => bytes.length + 1
  | .lit _ => 1
  | .nil => 1
  | .ptr d => uptoBulk d + 1
  | .slice elems spare => uptoBulkAll elems + uptoBulkAll spare + 1
  | .agg parts => uptoBulkAll parts + 1
  | .iface _ d => uptoBulk d + 1
  | .map entries => uptoBulkEntries entries + 1
  | .held _ => 1
def uptoBulkAll {H : Type} : List (DataW H) → Nat
  | [] => 0
  | d :: r => uptoBulk d + uptoBulkAll r
def uptoBulkEntries {H : Type} : List (Lit × DataW H) → Nat
  | [] => 0
  | x :: r => uptoBulkEntry x + uptoBulkEntries r
def uptoBulkEntry {H : Type} : Lit × DataW H → Nat
  | (.string bytes, d) => bytes.length + uptoBulk d + 1
  | (_, d) => uptoBulk d + 1
 end
def uptoSmall : (H : Type) → List (DataW H) → Bool := fun _ ds => decide (uptoBulkAll ds ≤ 1048576)
def OpenSpec.upto (s : _root_.Go.ChangeSpec) : _root_.Go.OpenSpec := { _root_.Go.OpenSpec.ofChange s with cond := some uptoSmall }

/-- 'lodgelaw.Checks', WHERE WHAT IT READS IS OF BULK AT MOST 1048576: true; the input reads as it did. -/
def checksUptoRow : OpenClaim := { program := "ytoepcplbpochpaadoor", sum := "8bc4ea6c93485346d6a0737cbeb88621707a4c6491d4a07d8def031cbe97131c", func := "lodge/lodgelaw.Checks", spec := "checks", named := ["lodge/code.kinds"], apart := false, laid := [("lodge/code.kinds", laid_lodge_code_kinds)], narrowed := true }
def ChecksUptoSaid : Prop := checksUptoRow.holds Tryd.pinned (OpenSpec.upto checksSpec)

/-- 'lodgelaw.Runs', WHERE WHAT IT READS IS OF BULK AT MOST 1048576: true; the input reads as it did. -/
def runsUptoRow : OpenClaim := { program := "ytoepcplbpochpaadoor", sum := "8bc4ea6c93485346d6a0737cbeb88621707a4c6491d4a07d8def031cbe97131c", func := "lodge/lodgelaw.Runs", spec := "runs", named := ["lodge/code.kinds"], apart := false, laid := [("lodge/code.kinds", laid_lodge_code_kinds)], narrowed := true }
def RunsUptoSaid : Prop := runsUptoRow.holds Tryd.pinned (OpenSpec.upto runsSpec)

/-- 'lodgelaw.Units', WHERE WHAT IT READS IS OF BULK AT MOST 1048576: true; the input reads as it did. -/
def unitsUptoRow : OpenClaim := { program := "ytoepcplbpochpaadoor", sum := "8bc4ea6c93485346d6a0737cbeb88621707a4c6491d4a07d8def031cbe97131c", func := "lodge/lodgelaw.Units", spec := "units", named := ["lodge/code.kinds"], apart := false, laid := [("lodge/code.kinds", laid_lodge_code_kinds)], narrowed := true }
def UnitsUptoSaid : Prop := unitsUptoRow.holds Tryd.pinned (OpenSpec.upto unitsSpec)

/-- 'lodgelaw.Makes', WHERE WHAT IT READS IS OF BULK AT MOST 1048576: true; the input reads as it did. -/
def makesUptoRow : OpenClaim := { program := "ytoepcplbpochpaadoor", sum := "8bc4ea6c93485346d6a0737cbeb88621707a4c6491d4a07d8def031cbe97131c", func := "lodge/lodgelaw.Makes", spec := "makes", named := ["lodge/code.kinds"], apart := false, laid := [("lodge/code.kinds", laid_lodge_code_kinds)], narrowed := true }
def MakesUptoSaid : Prop := makesUptoRow.holds Tryd.pinned (OpenSpec.upto makesSpec)

/-- 'lodgelaw.Means', WHERE WHAT IT READS IS OF BULK AT MOST 1048576: true; the input reads as it did. -/
def meansUptoRow : OpenClaim := { program := "ytoepcplbpochpaadoor", sum := "8bc4ea6c93485346d6a0737cbeb88621707a4c6491d4a07d8def031cbe97131c", func := "lodge/lodgelaw.Means", spec := "means", named := ["lodge/code.kinds"], apart := false, laid := [("lodge/code.kinds", laid_lodge_code_kinds)], narrowed := true }
def MeansUptoSaid : Prop := meansUptoRow.holds Tryd.pinned (OpenSpec.upto meansSpec)

/-- 'lodgelaw.Told', WHERE WHAT IT READS IS OF BULK AT MOST 1048576: true; the input reads as it did. -/
def toldUptoRow : OpenClaim := { program := "ytoepcplbpochpaadoor", sum := "8bc4ea6c93485346d6a0737cbeb88621707a4c6491d4a07d8def031cbe97131c", func := "lodge/lodgelaw.Told", spec := "told", named := ["lodge/code.kinds"], apart := false, laid := [("lodge/code.kinds", laid_lodge_code_kinds)], narrowed := true }
def ToldUptoSaid : Prop := toldUptoRow.holds Tryd.pinned (OpenSpec.upto toldSpec)

/-- 'lodgekeep.Same', WHERE WHAT IT READS IS OF BULK AT MOST 1048576: true; the input reads as it did. -/
def sameUptoRow : OpenClaim := { program := "ytoepcplbpochpaadoor", sum := "8bc4ea6c93485346d6a0737cbeb88621707a4c6491d4a07d8def031cbe97131c", func := "lodge/lodgekeep.Same", spec := "same", named := ["lodge/code.kinds"], apart := false, laid := [("lodge/code.kinds", laid_lodge_code_kinds)], narrowed := true }
def SameUptoSaid : Prop := sameUptoRow.holds Tryd.pinned (OpenSpec.upto sameSpec)

/-- 'lodgekeep.True', WHERE WHAT IT READS IS OF BULK AT MOST 1048576: true; the input reads as it did. -/
def trueUptoRow : OpenClaim := { program := "ytoepcplbpochpaadoor", sum := "8bc4ea6c93485346d6a0737cbeb88621707a4c6491d4a07d8def031cbe97131c", func := "lodge/lodgekeep.True", spec := "true", named := ["lodge/code.kinds"], apart := false, laid := [("lodge/code.kinds", laid_lodge_code_kinds)], narrowed := true }
def TrueUptoSaid : Prop := trueUptoRow.holds Tryd.pinned (OpenSpec.upto trueSpec)

end Rows
end Go.Proofs.YtoepcplbpochpaaDoor
