/-
  NARROWER THAN 'FOR EVERY INPUT', by the rows' own cells (each row's printed sentence says how): Shown: laid · Plain: laid · Roomy: laid · Longer: laid · Known: laid.
  DERIVED. THE GIVEN ROWS OF THIS SEAT. 5 by the template 'for every input the law returns true; each argument reads behind the call as it read before'; 0 by the template 'total and deterministic' (their statements: YtoepcplbpochpabDoorTotals.lean).
  GIVEN WITH THE SEED: the statements are not yours to turn. If you find one false, say at which input.
  Laid BY PROGRAM, IN A SANDBOX (cutbox-rows.mjs): the forced cells as the released guide's own fill.sh prints them over the translation 02a1e8630e99cffe… (all of the seat's roots in one cut). By AI agents, Wed Nov 11 2026. No macro, syntax, notation, axiom, sorry.
-/
import Derived.Test.YtoepcplbpochpabDoorChecked
import GoSem.Claim
import GoSem.ClaimJoined
import GoSem.ClaimMapViews
import Derived.JoinedTies
import Derived.KernelRfl
namespace Go.Proofs.YtoepcplbpochpabDoor
/- THE CELL 'sum', in the pinned program and in every row, IS THE sha256 OF THE DUMP (.gsa) THAT YtoepcplbpochpabDoorProg.lean LOADS. Nothing in Lean hashes anything: it is a label: what it is worth is what the hold of that sum in a sandbox is worth. -/
noncomputable def Tryd.pinned : Pinned := { name := "ytoepcplbpochpabdoor", sum := "02a1e8630e99cffe0fcec9f03ee6143fa7b1b5fa63933fec5ac3c1513d1b7237", checked := Tryd.checked }
namespace Rows
def none {H : Type} : Left H := { results := [], args := [] }

/- WHAT THE LISTED PACKAGE-LEVEL VARIABLES READ AS WHEN THE CALL BEGINS. Each datum BY PROGRAM (the guide's laid-datum.mjs) off the statement by which the dump's own 'gosem.cut.vars' lays the variable. In a bare row this is a premise. The card (YtoepcplbpochpabDoorCards.lean) ties it to the program's text. -/
def laid_lodge_code_kinds {H : Type} : DataW H := .agg [.agg [.lit (.int .i64 1), .lit (.int .i64 2), .lit (.int .i64 0)], .agg [.lit (.int .i64 1), .lit (.int .i64 1), .lit (.int .i64 0)], .agg [.lit (.int .i64 1), .lit (.int .i64 1), .lit (.int .i64 1)], .agg [.lit (.int .i64 1), .lit (.int .i64 1), .lit (.int .i64 1)], .agg [.lit (.int .i64 1), .lit (.int .i64 1), .lit (.int .i64 1)], .agg [.lit (.int .i64 1), .lit (.int .i64 1), .lit (.int .i64 1)], .agg [.lit (.int .i64 1), .lit (.int .i64 1), .lit (.int .i64 1)], .agg [.lit (.int .i64 0), .lit (.int .i64 3), .lit (.int .i64 0)], .agg [.lit (.int .i64 0), .lit (.int .i64 1), .lit (.int .i64 3)], .agg [.lit (.int .i64 0), .lit (.int .i64 1), .lit (.int .i64 0)], .agg [.lit (.int .i64 0), .lit (.int .i64 1), .lit (.int .i64 0)], .agg [.lit (.int .i64 0), .lit (.int .i64 4), .lit (.int .i64 0)], .agg [.lit (.int .i64 5), .lit (.int .i64 1), .lit (.int .i64 0)], .agg [.lit (.int .i64 5), .lit (.int .i64 2), .lit (.int .i64 0)], .agg [.lit (.int .i64 5), .lit (.int .i64 0), .lit (.int .i64 0)], .agg [.lit (.int .i64 1), .lit (.int .i64 6), .lit (.int .i64 0)], .agg [.lit (.int .i64 6), .lit (.int .i64 1), .lit (.int .i64 0)]]

/-- 'lodgekeep.Shown': WHATEVER THE INPUT: true; the input reads as it did. -/
def shownSpec : ChangeSpec := { name := "shown", fn := fun _ => fun
  | [d1, d2, d3, d4, d5] => { results := [.lit (.bool true)], args := [d1, d2, d3, d4, d5] }
  | _ => none }
def shownRow : OpenClaim := { program := "ytoepcplbpochpabdoor", sum := "02a1e8630e99cffe0fcec9f03ee6143fa7b1b5fa63933fec5ac3c1513d1b7237", func := "lodge/lodgekeep.Shown", spec := "shown", named := ["lodge/code.kinds"], apart := false, laid := [("lodge/code.kinds", laid_lodge_code_kinds)] }
def ShownSaid : Prop := shownRow.holds Tryd.pinned (OpenSpec.ofChange shownSpec)

/-- ITS FALSE NEIGHBOUR: 'it returns false'. Refute it at one input. -/
def shownWrong : ChangeSpec := { name := "shown", fn := fun _ => fun
  | [d1, d2, d3, d4, d5] => { results := [.lit (.bool false)], args := [d1, d2, d3, d4, d5] }
  | _ => none }
def ShownWrongFalsely : Prop := shownRow.holds Tryd.pinned (OpenSpec.ofChange shownWrong)

/-- 'lodgekeep.Plain': WHATEVER THE INPUT: true; the input reads as it did. -/
def plainSpec : ChangeSpec := { name := "plain", fn := fun _ => fun
  | [d1, d2, d3, d4] => { results := [.lit (.bool true)], args := [d1, d2, d3, d4] }
  | _ => none }
def plainRow : OpenClaim := { program := "ytoepcplbpochpabdoor", sum := "02a1e8630e99cffe0fcec9f03ee6143fa7b1b5fa63933fec5ac3c1513d1b7237", func := "lodge/lodgekeep.Plain", spec := "plain", named := ["lodge/code.kinds"], apart := false, laid := [("lodge/code.kinds", laid_lodge_code_kinds)] }
def PlainSaid : Prop := plainRow.holds Tryd.pinned (OpenSpec.ofChange plainSpec)

/-- ITS FALSE NEIGHBOUR: 'it returns false'. Refute it at one input. -/
def plainWrong : ChangeSpec := { name := "plain", fn := fun _ => fun
  | [d1, d2, d3, d4] => { results := [.lit (.bool false)], args := [d1, d2, d3, d4] }
  | _ => none }
def PlainWrongFalsely : Prop := plainRow.holds Tryd.pinned (OpenSpec.ofChange plainWrong)

/-- 'lodgekeep.Roomy': WHATEVER THE INPUT: true; the input reads as it did. -/
def roomySpec : ChangeSpec := { name := "roomy", fn := fun _ => fun
  | [d1, d2] => { results := [.lit (.bool true)], args := [d1, d2] }
  | _ => none }
def roomyRow : OpenClaim := { program := "ytoepcplbpochpabdoor", sum := "02a1e8630e99cffe0fcec9f03ee6143fa7b1b5fa63933fec5ac3c1513d1b7237", func := "lodge/lodgekeep.Roomy", spec := "roomy", named := ["lodge/code.kinds"], apart := false, laid := [("lodge/code.kinds", laid_lodge_code_kinds)] }
def RoomySaid : Prop := roomyRow.holds Tryd.pinned (OpenSpec.ofChange roomySpec)

/-- ITS FALSE NEIGHBOUR: 'it returns false'. Refute it at one input. -/
def roomyWrong : ChangeSpec := { name := "roomy", fn := fun _ => fun
  | [d1, d2] => { results := [.lit (.bool false)], args := [d1, d2] }
  | _ => none }
def RoomyWrongFalsely : Prop := roomyRow.holds Tryd.pinned (OpenSpec.ofChange roomyWrong)

/-- 'lodgekeep.Longer': WHATEVER THE INPUT: true; the input reads as it did. -/
def longerSpec : ChangeSpec := { name := "longer", fn := fun _ => fun
  | [d1, d2, d3, d4, d5] => { results := [.lit (.bool true)], args := [d1, d2, d3, d4, d5] }
  | _ => none }
def longerRow : OpenClaim := { program := "ytoepcplbpochpabdoor", sum := "02a1e8630e99cffe0fcec9f03ee6143fa7b1b5fa63933fec5ac3c1513d1b7237", func := "lodge/lodgekeep.Longer", spec := "longer", named := ["lodge/code.kinds"], apart := false, laid := [("lodge/code.kinds", laid_lodge_code_kinds)] }
def LongerSaid : Prop := longerRow.holds Tryd.pinned (OpenSpec.ofChange longerSpec)

/-- ITS FALSE NEIGHBOUR: 'it returns false'. Refute it at one input. -/
def longerWrong : ChangeSpec := { name := "longer", fn := fun _ => fun
  | [d1, d2, d3, d4, d5] => { results := [.lit (.bool false)], args := [d1, d2, d3, d4, d5] }
  | _ => none }
def LongerWrongFalsely : Prop := longerRow.holds Tryd.pinned (OpenSpec.ofChange longerWrong)

/-- 'lodgekeep.Known': WHATEVER THE INPUT: true; the input reads as it did. -/
def knownSpec : ChangeSpec := { name := "known", fn := fun _ => fun
  | [d1, d2, d3, d4] => { results := [.lit (.bool true)], args := [d1, d2, d3, d4] }
  | _ => none }
def knownRow : OpenClaim := { program := "ytoepcplbpochpabdoor", sum := "02a1e8630e99cffe0fcec9f03ee6143fa7b1b5fa63933fec5ac3c1513d1b7237", func := "lodge/lodgekeep.Known", spec := "known", named := ["lodge/code.kinds"], apart := false, laid := [("lodge/code.kinds", laid_lodge_code_kinds)] }
def KnownSaid : Prop := knownRow.holds Tryd.pinned (OpenSpec.ofChange knownSpec)

/-- ITS FALSE NEIGHBOUR: 'it returns false'. Refute it at one input. -/
def knownWrong : ChangeSpec := { name := "known", fn := fun _ => fun
  | [d1, d2, d3, d4] => { results := [.lit (.bool false)], args := [d1, d2, d3, d4] }
  | _ => none }
def KnownWrongFalsely : Prop := knownRow.holds Tryd.pinned (OpenSpec.ofChange knownWrong)

/- THE SECOND FORM. 'bulk': how many values and letters a reading holds, each counted each time it is reached (what is shared counts as often as it is met; a slice's spare places count too). A statement '..UptoSaid' is the law's where the arguments, and the package variables that the reading takes, are together of bulk at most 1048576: NARROWER than '..Said'. Prove '..Said' where nothing that the law and all that it calls make is longer than what came in: it says more and counts as full. Else prove '..UptoSaid'. A law counts once. -/
mutual
def uptoBulk {H : Type} : DataW H → Nat
  | .lit (.string bytes) => bytes.length + 1
  | .lit _ => 1
  | .nil => 1
  | .ptr d => uptoBulk d + 1
  | .slice elems spare => uptoBulkAll elems + uptoBulkAll spare + 1
  | .agg parts => uptoBulkAll parts + 1
  | .iface _ d => uptoBulk d + 1
  | .map entries => uptoBulkEntries entries + 1
  | .held _ => 1
def uptoBulkAll {H : Type} : List (DataW H) → Nat
  | [] => 0
  | d :: r => uptoBulk d + uptoBulkAll r
def uptoBulkEntries {H : Type} : List (Lit × DataW H) → Nat
  | [] => 0
  | x :: r => uptoBulkEntry x + uptoBulkEntries r
def uptoBulkEntry {H : Type} : Lit × DataW H → Nat
  | (.string bytes, d) => bytes.length + uptoBulk d + 1
  | (_, d) => uptoBulk d + 1
 end
def uptoSmall : (H : Type) → List (DataW H) → Bool := fun _ ds => decide (uptoBulkAll ds ≤ 1048576)
def OpenSpec.upto (s : _root_.Go.ChangeSpec) : _root_.Go.OpenSpec := { _root_.Go.OpenSpec.ofChange s with cond := some uptoSmall }

/-- 'lodgekeep.Shown', WHERE WHAT IT READS IS OF BULK AT MOST 1048576: true; the input reads as it did. -/
def shownUptoRow : OpenClaim := { program := "ytoepcplbpochpabdoor", sum := "02a1e8630e99cffe0fcec9f03ee6143fa7b1b5fa63933fec5ac3c1513d1b7237", func := "lodge/lodgekeep.Shown", spec := "shown", named := ["lodge/code.kinds"], apart := false, laid := [("lodge/code.kinds", laid_lodge_code_kinds)], narrowed := true }
def ShownUptoSaid : Prop := shownUptoRow.holds Tryd.pinned (OpenSpec.upto shownSpec)

/-- 'lodgekeep.Plain', WHERE WHAT IT READS IS OF BULK AT MOST 1048576: true; the input reads as it did. -/
def plainUptoRow : OpenClaim := { program := "ytoepcplbpochpabdoor", sum := "02a1e8630e99cffe0fcec9f03ee6143fa7b1b5fa63933fec5ac3c1513d1b7237", func := "lodge/lodgekeep.Plain", spec := "plain", named := ["lodge/code.kinds"], apart := false, laid := [("lodge/code.kinds", laid_lodge_code_kinds)], narrowed := true }
def PlainUptoSaid : Prop := plainUptoRow.holds Tryd.pinned (OpenSpec.upto plainSpec)

/-- 'lodgekeep.Roomy', WHERE WHAT IT READS IS OF BULK AT MOST 1048576: true; the input reads as it did. -/
def roomyUptoRow : OpenClaim := { program := "ytoepcplbpochpabdoor", sum := "02a1e8630e99cffe0fcec9f03ee6143fa7b1b5fa63933fec5ac3c1513d1b7237", func := "lodge/lodgekeep.Roomy", spec := "roomy", named := ["lodge/code.kinds"], apart := false, laid := [("lodge/code.kinds", laid_lodge_code_kinds)], narrowed := true }
def RoomyUptoSaid : Prop := roomyUptoRow.holds Tryd.pinned (OpenSpec.upto roomySpec)

/-- 'lodgekeep.Longer', WHERE WHAT IT READS IS OF BULK AT MOST 1048576: true; the input reads as it did. -/
def longerUptoRow : OpenClaim := { program := "ytoepcplbpochpabdoor", sum := "02a1e8630e99cffe0fcec9f03ee6143fa7b1b5fa63933fec5ac3c1513d1b7237", func := "lodge/lodgekeep.Longer", spec := "longer", named := ["lodge/code.kinds"], apart := false, laid := [("lodge/code.kinds", laid_lodge_code_kinds)], narrowed := true }
def LongerUptoSaid : Prop := longerUptoRow.holds Tryd.pinned (OpenSpec.upto longerSpec)

/-- 'lodgekeep.Known', WHERE WHAT IT READS IS OF BULK AT MOST 1048576: true; the input reads as it did. -/
def knownUptoRow : OpenClaim := { program := "ytoepcplbpochpabdoor", sum := "02a1e8630e99cffe0fcec9f03ee6143fa7b1b5fa63933fec5ac3c1513d1b7237", func := "lodge/lodgekeep.Known", spec := "known", named := ["lodge/code.kinds"], apart := false, laid := [("lodge/code.kinds", laid_lodge_code_kinds)], narrowed := true }
def KnownUptoSaid : Prop := knownUptoRow.holds Tryd.pinned (OpenSpec.upto knownSpec)

end Rows
end Go.Proofs.YtoepcplbpochpabDoor
