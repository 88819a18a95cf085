/-
  NARROWER THAN 'FOR EVERY INPUT', by the rows' own cells (each row's printed sentence says how): SumKnown: laid · SumNumbers: laid · SumTells: laid · SumKept: laid.
  DERIVED. THE GIVEN ROWS OF THIS SEAT. 4 by the template 'for every input the law returns true; each argument reads behind the call as it read before'; 0 by the template 'total and deterministic' (their statements: YtflepcoiidaekaaDoorTotals.lean).
  GIVEN WITH THE SEED: the statements are not yours to turn. If you find one false, say at which input.
  Laid BY PROGRAM, IN A SANDBOX (cutbox-rows.mjs): the forced cells as the released guide's own fill.sh prints them over the translation eae488cf2d6b61de… (all of the seat's roots in one cut). By AI agents, Wed Nov 11 2026. No macro, syntax, notation, axiom, sorry.
-/
import Derived.Test.YtflepcoiidaekaaDoorChecked
import GoSem.Claim
import GoSem.ClaimJoined
import GoSem.ClaimMapViews
import Derived.JoinedTies
import Derived.KernelRfl
namespace Go.Proofs.YtflepcoiidaekaaDoor
/- THE CELL 'sum', in the pinned program and in every row, IS THE sha256 OF THE DUMP (.gsa) THAT YtflepcoiidaekaaDoorProg.lean LOADS. Nothing in Lean hashes anything: it is a label: what it is worth is what the hold of that sum in a sandbox is worth. -/
noncomputable def Tryd.pinned : Pinned := { name := "ytflepcoiidaekaadoor", sum := "eae488cf2d6b61de512c763c092cdf27fc99042000aa0fcb2c28d7bb958cfc78", checked := Tryd.checked }
namespace Rows
def none {H : Type} : Left H := { results := [], args := [] }

/- WHAT THE LISTED PACKAGE-LEVEL VARIABLES READ AS WHEN THE CALL BEGINS. Each datum BY PROGRAM (the guide's laid-datum.mjs) off the statement by which the dump's own 'gosem.cut.vars' lays the variable. In a bare row this is a premise. The card (YtflepcoiidaekaaDoorCards.lean) ties it to the program's text. -/
def laid_muniment_sum_steps {H : Type} : DataW H := .agg [.lit (.int .u32 0), .lit (.int .u32 498536548), .lit (.int .u32 997073096), .lit (.int .u32 651767980), .lit (.int .u32 1994146192), .lit (.int .u32 1802195444), .lit (.int .u32 1303535960), .lit (.int .u32 1342533948), .lit (.int .u32 3988292384), .lit (.int .u32 4027552580), .lit (.int .u32 3604390888), .lit (.int .u32 3412177804), .lit (.int .u32 2607071920), .lit (.int .u32 2262029012), .lit (.int .u32 2685067896), .lit (.int .u32 3183342108)]

/-- 'munimentlaw1.SumKnown': WHATEVER THE INPUT: true; the input reads as it did. -/
def sumKnownSpec : ChangeSpec := { name := "sumKnown", fn := fun _ => fun
  | [] => { results := [.lit (.bool true)], args := [] }
  | _ => none }
def sumKnownRow : OpenClaim := { program := "ytflepcoiidaekaadoor", sum := "eae488cf2d6b61de512c763c092cdf27fc99042000aa0fcb2c28d7bb958cfc78", func := "muniment/munimentlaw1.SumKnown", spec := "sumKnown", named := ["muniment/sum.steps"], apart := false, laid := [("muniment/sum.steps", laid_muniment_sum_steps)] }
def SumKnownSaid : Prop := sumKnownRow.holds Tryd.pinned (OpenSpec.ofChange sumKnownSpec)

/-- ITS FALSE NEIGHBOUR: 'it returns false'. Refute it at one input. -/
def sumKnownWrong : ChangeSpec := { name := "sumKnown", fn := fun _ => fun
  | [] => { results := [.lit (.bool false)], args := [] }
  | _ => none }
def SumKnownWrongFalsely : Prop := sumKnownRow.holds Tryd.pinned (OpenSpec.ofChange sumKnownWrong)

/-- 'munimentlaw1.SumNumbers': WHATEVER THE INPUT: true; the input reads as it did. -/
def sumNumbersSpec : ChangeSpec := { name := "sumNumbers", fn := fun _ => fun
  | [d1, d2, d3, d4] => { results := [.lit (.bool true)], args := [d1, d2, d3, d4] }
  | _ => none }
def sumNumbersRow : OpenClaim := { program := "ytflepcoiidaekaadoor", sum := "eae488cf2d6b61de512c763c092cdf27fc99042000aa0fcb2c28d7bb958cfc78", func := "muniment/munimentlaw1.SumNumbers", spec := "sumNumbers", named := ["muniment/sum.steps"], apart := false, laid := [("muniment/sum.steps", laid_muniment_sum_steps)] }
def SumNumbersSaid : Prop := sumNumbersRow.holds Tryd.pinned (OpenSpec.ofChange sumNumbersSpec)

/-- ITS FALSE NEIGHBOUR: 'it returns false'. Refute it at one input. -/
def sumNumbersWrong : ChangeSpec := { name := "sumNumbers", fn := fun _ => fun
  | [d1, d2, d3, d4] => { results := [.lit (.bool false)], args := [d1, d2, d3, d4] }
  | _ => none }
def SumNumbersWrongFalsely : Prop := sumNumbersRow.holds Tryd.pinned (OpenSpec.ofChange sumNumbersWrong)

/-- 'munimentlaw1.SumTells': WHATEVER THE INPUT: true; the input reads as it did. -/
def sumTellsSpec : ChangeSpec := { name := "sumTells", fn := fun _ => fun
  | [d1, d2, d3] => { results := [.lit (.bool true)], args := [d1, d2, d3] }
  | _ => none }
def sumTellsRow : OpenClaim := { program := "ytflepcoiidaekaadoor", sum := "eae488cf2d6b61de512c763c092cdf27fc99042000aa0fcb2c28d7bb958cfc78", func := "muniment/munimentlaw1.SumTells", spec := "sumTells", named := ["muniment/sum.steps"], apart := false, laid := [("muniment/sum.steps", laid_muniment_sum_steps)] }
def SumTellsSaid : Prop := sumTellsRow.holds Tryd.pinned (OpenSpec.ofChange sumTellsSpec)

/-- ITS FALSE NEIGHBOUR: 'it returns false'. Refute it at one input. -/
def sumTellsWrong : ChangeSpec := { name := "sumTells", fn := fun _ => fun
  | [d1, d2, d3] => { results := [.lit (.bool false)], args := [d1, d2, d3] }
  | _ => none }
def SumTellsWrongFalsely : Prop := sumTellsRow.holds Tryd.pinned (OpenSpec.ofChange sumTellsWrong)

/-- 'munimentlaw1.SumKept': WHATEVER THE INPUT: true; the input reads as it did. -/
def sumKeptSpec : ChangeSpec := { name := "sumKept", fn := fun _ => fun
  | [d1, d2, d3, d4] => { results := [.lit (.bool true)], args := [d1, d2, d3, d4] }
  | _ => none }
def sumKeptRow : OpenClaim := { program := "ytflepcoiidaekaadoor", sum := "eae488cf2d6b61de512c763c092cdf27fc99042000aa0fcb2c28d7bb958cfc78", func := "muniment/munimentlaw1.SumKept", spec := "sumKept", named := ["muniment/sum.steps"], apart := false, laid := [("muniment/sum.steps", laid_muniment_sum_steps)] }
def SumKeptSaid : Prop := sumKeptRow.holds Tryd.pinned (OpenSpec.ofChange sumKeptSpec)

/-- ITS FALSE NEIGHBOUR: 'it returns false'. Refute it at one input. -/
def sumKeptWrong : ChangeSpec := { name := "sumKept", fn := fun _ => fun
  | [d1, d2, d3, d4] => { results := [.lit (.bool false)], args := [d1, d2, d3, d4] }
  | _ => none }
def SumKeptWrongFalsely : Prop := sumKeptRow.holds Tryd.pinned (OpenSpec.ofChange sumKeptWrong)

/- THE SECOND FORM. 'bulk': how many values and letters a reading holds, each counted each time it is reached (what is shared counts as often as it is met; a slice's spare places count too). A statement '..UptoSaid' is the law's where the arguments, and the package variables that the reading takes, are together of bulk at most 1048576: NARROWER than '..Said'. Prove '..Said' where nothing that the law and all that it calls make is longer than what came in: it says more and counts as full. Else prove '..UptoSaid'. A law counts once. -/
mutual
def uptoBulk {H : Type} : DataW H → Nat
  | .lit (.string bytes) => bytes.length + 1
  | .lit _ => 1
  | .nil => 1
  | .ptr d => uptoBulk d + 1
  | .slice elems spare => uptoBulkAll elems + uptoBulkAll spare + 1
  | .agg parts => uptoBulkAll parts + 1
  | .iface _ d => uptoBulk d + 1
  | .map entries => uptoBulkEntries entries + 1
  | .held _ => 1
def uptoBulkAll {H : Type} : List (DataW H) → Nat
  | [] => 0
  | d :: r => uptoBulk d + uptoBulkAll r
def uptoBulkEntries {H : Type} : List (Lit × DataW H) → Nat
  | [] => 0
  | x :: r => uptoBulkEntry x + uptoBulkEntries r
def uptoBulkEntry {H : Type} : Lit × DataW H → Nat
  | (.string bytes, d) => bytes.length + uptoBulk d + 1
  | (_, d) => uptoBulk d + 1
 end
def uptoSmall : (H : Type) → List (DataW H) → Bool := fun _ ds => decide (uptoBulkAll ds ≤ 1048576)
def OpenSpec.upto (s : _root_.Go.ChangeSpec) : _root_.Go.OpenSpec := { _root_.Go.OpenSpec.ofChange s with cond := some uptoSmall }

/-- 'munimentlaw1.SumKnown', WHERE WHAT IT READS IS OF BULK AT MOST 1048576: true; the input reads as it did. -/
def sumKnownUptoRow : OpenClaim := { program := "ytflepcoiidaekaadoor", sum := "eae488cf2d6b61de512c763c092cdf27fc99042000aa0fcb2c28d7bb958cfc78", func := "muniment/munimentlaw1.SumKnown", spec := "sumKnown", named := ["muniment/sum.steps"], apart := false, laid := [("muniment/sum.steps", laid_muniment_sum_steps)], narrowed := true }
def SumKnownUptoSaid : Prop := sumKnownUptoRow.holds Tryd.pinned (OpenSpec.upto sumKnownSpec)

/-- 'munimentlaw1.SumNumbers', WHERE WHAT IT READS IS OF BULK AT MOST 1048576: true; the input reads as it did. -/
def sumNumbersUptoRow : OpenClaim := { program := "ytflepcoiidaekaadoor", sum := "eae488cf2d6b61de512c763c092cdf27fc99042000aa0fcb2c28d7bb958cfc78", func := "muniment/munimentlaw1.SumNumbers", spec := "sumNumbers", named := ["muniment/sum.steps"], apart := false, laid := [("muniment/sum.steps", laid_muniment_sum_steps)], narrowed := true }
def SumNumbersUptoSaid : Prop := sumNumbersUptoRow.holds Tryd.pinned (OpenSpec.upto sumNumbersSpec)

/-- 'munimentlaw1.SumTells', WHERE WHAT IT READS IS OF BULK AT MOST 1048576: true; the input reads as it did. -/
def sumTellsUptoRow : OpenClaim := { program := "ytflepcoiidaekaadoor", sum := "eae488cf2d6b61de512c763c092cdf27fc99042000aa0fcb2c28d7bb958cfc78", func := "muniment/munimentlaw1.SumTells", spec := "sumTells", named := ["muniment/sum.steps"], apart := false, laid := [("muniment/sum.steps", laid_muniment_sum_steps)], narrowed := true }
def SumTellsUptoSaid : Prop := sumTellsUptoRow.holds Tryd.pinned (OpenSpec.upto sumTellsSpec)

/-- 'munimentlaw1.SumKept', WHERE WHAT IT READS IS OF BULK AT MOST 1048576: true; the input reads as it did. -/
def sumKeptUptoRow : OpenClaim := { program := "ytflepcoiidaekaadoor", sum := "eae488cf2d6b61de512c763c092cdf27fc99042000aa0fcb2c28d7bb958cfc78", func := "muniment/munimentlaw1.SumKept", spec := "sumKept", named := ["muniment/sum.steps"], apart := false, laid := [("muniment/sum.steps", laid_muniment_sum_steps)], narrowed := true }
def SumKeptUptoSaid : Prop := sumKeptUptoRow.holds Tryd.pinned (OpenSpec.upto sumKeptSpec)

end Rows
end Go.Proofs.YtflepcoiidaekaaDoor
