/-
  NARROWER THAN 'FOR EVERY INPUT', by the rows' own cells (each row's printed sentence says how): PageKnown: laid · PageParts: laid · PageSeals: laid · PageKept: laid · PageHeads: laid.
  DERIVED. THE GIVEN ROWS OF THIS SEAT. 5 by the template 'for every input the law returns true; each argument reads behind the call as it read before'; 0 by the template 'total and deterministic' (their statements: YtmojfhleelhghaaDoorTotals.lean).
  GIVEN WITH THE SEED: the statements are not yours to turn. If you find one false, say at which input.
  Laid BY PROGRAM, IN A SANDBOX (cutbox-rows.mjs): the forced cells as the released guide's own fill.sh prints them over the translation 6116a9d45afa3e9d… (all of the seat's roots in one cut). By AI agents, Wed Nov 11 2026. No macro, syntax, notation, axiom, sorry.
-/
import Derived.Test.YtmojfhleelhghaaDoorChecked
import GoSem.Claim
import GoSem.ClaimJoined
import GoSem.ClaimMapViews
import Derived.JoinedTies
import Derived.KernelRfl
namespace Go.Proofs.YtmojfhleelhghaaDoor
/- THE CELL 'sum', in the pinned program and in every row, IS THE sha256 OF THE DUMP (.gsa) THAT YtmojfhleelhghaaDoorProg.lean LOADS. Nothing in Lean hashes anything: it is a label: what it is worth is what the hold of that sum in a sandbox is worth. -/
noncomputable def Tryd.pinned : Pinned := { name := "ytmojfhleelhghaadoor", sum := "6116a9d45afa3e9d89b8d3336ed8b65e7dec7ae8c35825887736cb0882c6dee9", checked := Tryd.checked }
namespace Rows
def none {H : Type} : Left H := { results := [], args := [] }

/- WHAT THE LISTED PACKAGE-LEVEL VARIABLES READ AS WHEN THE CALL BEGINS. Each datum BY PROGRAM (the guide's laid-datum.mjs) off the statement by which the dump's own 'gosem.cut.vars' lays the variable. In a bare row this is a premise. The card (YtmojfhleelhghaaDoorCards.lean) ties it to the program's text. -/
def laid_muniment_sum_steps {H : Type} : DataW H := .agg [.lit (.int .u32 0), .lit (.int .u32 498536548), .lit (.int .u32 997073096), .lit (.int .u32 651767980), .lit (.int .u32 1994146192), .lit (.int .u32 1802195444), .lit (.int .u32 1303535960), .lit (.int .u32 1342533948), .lit (.int .u32 3988292384), .lit (.int .u32 4027552580), .lit (.int .u32 3604390888), .lit (.int .u32 3412177804), .lit (.int .u32 2607071920), .lit (.int .u32 2262029012), .lit (.int .u32 2685067896), .lit (.int .u32 3183342108)]

/-- 'munimentlaw5.PageKnown': WHATEVER THE INPUT: true; the input reads as it did. -/
def pageKnownSpec : ChangeSpec := { name := "pageKnown", fn := fun _ => fun
  | [] => { results := [.lit (.bool true)], args := [] }
  | _ => none }
def pageKnownRow : OpenClaim := { program := "ytmojfhleelhghaadoor", sum := "6116a9d45afa3e9d89b8d3336ed8b65e7dec7ae8c35825887736cb0882c6dee9", func := "muniment/munimentlaw5.PageKnown", spec := "pageKnown", named := ["muniment/sum.steps"], apart := false, laid := [("muniment/sum.steps", laid_muniment_sum_steps)] }
def PageKnownSaid : Prop := pageKnownRow.holds Tryd.pinned (OpenSpec.ofChange pageKnownSpec)

/-- ITS FALSE NEIGHBOUR: 'it returns false'. Refute it at one input. -/
def pageKnownWrong : ChangeSpec := { name := "pageKnown", fn := fun _ => fun
  | [] => { results := [.lit (.bool false)], args := [] }
  | _ => none }
def PageKnownWrongFalsely : Prop := pageKnownRow.holds Tryd.pinned (OpenSpec.ofChange pageKnownWrong)

/-- 'munimentlaw5.PageParts': WHATEVER THE INPUT: true; the input reads as it did. -/
def pagePartsSpec : ChangeSpec := { name := "pageParts", fn := fun _ => fun
  | [d1, d2, d3, d4, d5, d6] => { results := [.lit (.bool true)], args := [d1, d2, d3, d4, d5, d6] }
  | _ => none }
def pagePartsRow : OpenClaim := { program := "ytmojfhleelhghaadoor", sum := "6116a9d45afa3e9d89b8d3336ed8b65e7dec7ae8c35825887736cb0882c6dee9", func := "muniment/munimentlaw5.PageParts", spec := "pageParts", named := ["muniment/sum.steps"], apart := false, laid := [("muniment/sum.steps", laid_muniment_sum_steps)] }
def PagePartsSaid : Prop := pagePartsRow.holds Tryd.pinned (OpenSpec.ofChange pagePartsSpec)

/-- ITS FALSE NEIGHBOUR: 'it returns false'. Refute it at one input. -/
def pagePartsWrong : ChangeSpec := { name := "pageParts", fn := fun _ => fun
  | [d1, d2, d3, d4, d5, d6] => { results := [.lit (.bool false)], args := [d1, d2, d3, d4, d5, d6] }
  | _ => none }
def PagePartsWrongFalsely : Prop := pagePartsRow.holds Tryd.pinned (OpenSpec.ofChange pagePartsWrong)

/-- 'munimentlaw5.PageSeals': WHATEVER THE INPUT: true; the input reads as it did. -/
def pageSealsSpec : ChangeSpec := { name := "pageSeals", fn := fun _ => fun
  | [d1, d2, d3] => { results := [.lit (.bool true)], args := [d1, d2, d3] }
  | _ => none }
def pageSealsRow : OpenClaim := { program := "ytmojfhleelhghaadoor", sum := "6116a9d45afa3e9d89b8d3336ed8b65e7dec7ae8c35825887736cb0882c6dee9", func := "muniment/munimentlaw5.PageSeals", spec := "pageSeals", named := ["muniment/sum.steps"], apart := false, laid := [("muniment/sum.steps", laid_muniment_sum_steps)] }
def PageSealsSaid : Prop := pageSealsRow.holds Tryd.pinned (OpenSpec.ofChange pageSealsSpec)

/-- ITS FALSE NEIGHBOUR: 'it returns false'. Refute it at one input. -/
def pageSealsWrong : ChangeSpec := { name := "pageSeals", fn := fun _ => fun
  | [d1, d2, d3] => { results := [.lit (.bool false)], args := [d1, d2, d3] }
  | _ => none }
def PageSealsWrongFalsely : Prop := pageSealsRow.holds Tryd.pinned (OpenSpec.ofChange pageSealsWrong)

/-- 'munimentlaw5.PageKept': WHATEVER THE INPUT: true; the input reads as it did. -/
def pageKeptSpec : ChangeSpec := { name := "pageKept", fn := fun _ => fun
  | [d1, d2, d3] => { results := [.lit (.bool true)], args := [d1, d2, d3] }
  | _ => none }
def pageKeptRow : OpenClaim := { program := "ytmojfhleelhghaadoor", sum := "6116a9d45afa3e9d89b8d3336ed8b65e7dec7ae8c35825887736cb0882c6dee9", func := "muniment/munimentlaw5.PageKept", spec := "pageKept", named := ["muniment/sum.steps"], apart := false, laid := [("muniment/sum.steps", laid_muniment_sum_steps)] }
def PageKeptSaid : Prop := pageKeptRow.holds Tryd.pinned (OpenSpec.ofChange pageKeptSpec)

/-- ITS FALSE NEIGHBOUR: 'it returns false'. Refute it at one input. -/
def pageKeptWrong : ChangeSpec := { name := "pageKept", fn := fun _ => fun
  | [d1, d2, d3] => { results := [.lit (.bool false)], args := [d1, d2, d3] }
  | _ => none }
def PageKeptWrongFalsely : Prop := pageKeptRow.holds Tryd.pinned (OpenSpec.ofChange pageKeptWrong)

/-- 'munimentlaw5.PageHeads': WHATEVER THE INPUT: true; the input reads as it did. -/
def pageHeadsSpec : ChangeSpec := { name := "pageHeads", fn := fun _ => fun
  | [d1, d2, d3, d4] => { results := [.lit (.bool true)], args := [d1, d2, d3, d4] }
  | _ => none }
def pageHeadsRow : OpenClaim := { program := "ytmojfhleelhghaadoor", sum := "6116a9d45afa3e9d89b8d3336ed8b65e7dec7ae8c35825887736cb0882c6dee9", func := "muniment/munimentlaw5.PageHeads", spec := "pageHeads", named := ["muniment/sum.steps"], apart := false, laid := [("muniment/sum.steps", laid_muniment_sum_steps)] }
def PageHeadsSaid : Prop := pageHeadsRow.holds Tryd.pinned (OpenSpec.ofChange pageHeadsSpec)

/-- ITS FALSE NEIGHBOUR: 'it returns false'. Refute it at one input. -/
def pageHeadsWrong : ChangeSpec := { name := "pageHeads", fn := fun _ => fun
  | [d1, d2, d3, d4] => { results := [.lit (.bool false)], args := [d1, d2, d3, d4] }
  | _ => none }
def PageHeadsWrongFalsely : Prop := pageHeadsRow.holds Tryd.pinned (OpenSpec.ofChange pageHeadsWrong)

/- THE SECOND FORM. 'bulk': how many values and letters a reading holds, each counted each time it is reached (what is shared counts as often as it is met; a slice's spare places count too). A statement '..UptoSaid' is the law's where the arguments, and the package variables that the reading takes, are together of bulk at most 1048576: NARROWER than '..Said'. Prove '..Said' where nothing that the law and all that it calls make is longer than what came in: it says more and counts as full. Else prove '..UptoSaid'. A law counts once. -/
mutual
def uptoBulk {H : Type} : DataW H → Nat
  | .lit (.string bytes) => bytes.length + 1
  | .lit _ => 1
  | .nil => 1
  | .ptr d => uptoBulk d + 1
  | .slice elems spare => uptoBulkAll elems + uptoBulkAll spare + 1
  | .agg parts => uptoBulkAll parts + 1
  | .iface _ d => uptoBulk d + 1
  | .map entries => uptoBulkEntries entries + 1
  | .held _ => 1
def uptoBulkAll {H : Type} : List (DataW H) → Nat
  | [] => 0
  | d :: r => uptoBulk d + uptoBulkAll r
def uptoBulkEntries {H : Type} : List (Lit × DataW H) → Nat
  | [] => 0
  | x :: r => uptoBulkEntry x + uptoBulkEntries r
def uptoBulkEntry {H : Type} : Lit × DataW H → Nat
  | (.string bytes, d) => bytes.length + uptoBulk d + 1
  | (_, d) => uptoBulk d + 1
 end
def uptoSmall : (H : Type) → List (DataW H) → Bool := fun _ ds => decide (uptoBulkAll ds ≤ 1048576)
def OpenSpec.upto (s : _root_.Go.ChangeSpec) : _root_.Go.OpenSpec := { _root_.Go.OpenSpec.ofChange s with cond := some uptoSmall }

/-- 'munimentlaw5.PageKnown', WHERE WHAT IT READS IS OF BULK AT MOST 1048576: true; the input reads as it did. -/
def pageKnownUptoRow : OpenClaim := { program := "ytmojfhleelhghaadoor", sum := "6116a9d45afa3e9d89b8d3336ed8b65e7dec7ae8c35825887736cb0882c6dee9", func := "muniment/munimentlaw5.PageKnown", spec := "pageKnown", named := ["muniment/sum.steps"], apart := false, laid := [("muniment/sum.steps", laid_muniment_sum_steps)], narrowed := true }
def PageKnownUptoSaid : Prop := pageKnownUptoRow.holds Tryd.pinned (OpenSpec.upto pageKnownSpec)

/-- 'munimentlaw5.PageParts', WHERE WHAT IT READS IS OF BULK AT MOST 1048576: true; the input reads as it did. -/
def pagePartsUptoRow : OpenClaim := { program := "ytmojfhleelhghaadoor", sum := "6116a9d45afa3e9d89b8d3336ed8b65e7dec7ae8c35825887736cb0882c6dee9", func := "muniment/munimentlaw5.PageParts", spec := "pageParts", named := ["muniment/sum.steps"], apart := false, laid := [("muniment/sum.steps", laid_muniment_sum_steps)], narrowed := true }
def PagePartsUptoSaid : Prop := pagePartsUptoRow.holds Tryd.pinned (OpenSpec.upto pagePartsSpec)

/-- 'munimentlaw5.PageSeals', WHERE WHAT IT READS IS OF BULK AT MOST 1048576: true; the input reads as it did. -/
def pageSealsUptoRow : OpenClaim := { program := "ytmojfhleelhghaadoor", sum := "6116a9d45afa3e9d89b8d3336ed8b65e7dec7ae8c35825887736cb0882c6dee9", func := "muniment/munimentlaw5.PageSeals", spec := "pageSeals", named := ["muniment/sum.steps"], apart := false, laid := [("muniment/sum.steps", laid_muniment_sum_steps)], narrowed := true }
def PageSealsUptoSaid : Prop := pageSealsUptoRow.holds Tryd.pinned (OpenSpec.upto pageSealsSpec)

/-- 'munimentlaw5.PageKept', WHERE WHAT IT READS IS OF BULK AT MOST 1048576: true; the input reads as it did. -/
def pageKeptUptoRow : OpenClaim := { program := "ytmojfhleelhghaadoor", sum := "6116a9d45afa3e9d89b8d3336ed8b65e7dec7ae8c35825887736cb0882c6dee9", func := "muniment/munimentlaw5.PageKept", spec := "pageKept", named := ["muniment/sum.steps"], apart := false, laid := [("muniment/sum.steps", laid_muniment_sum_steps)], narrowed := true }
def PageKeptUptoSaid : Prop := pageKeptUptoRow.holds Tryd.pinned (OpenSpec.upto pageKeptSpec)

/-- 'munimentlaw5.PageHeads', WHERE WHAT IT READS IS OF BULK AT MOST 1048576: true; the input reads as it did. -/
def pageHeadsUptoRow : OpenClaim := { program := "ytmojfhleelhghaadoor", sum := "6116a9d45afa3e9d89b8d3336ed8b65e7dec7ae8c35825887736cb0882c6dee9", func := "muniment/munimentlaw5.PageHeads", spec := "pageHeads", named := ["muniment/sum.steps"], apart := false, laid := [("muniment/sum.steps", laid_muniment_sum_steps)], narrowed := true }
def PageHeadsUptoSaid : Prop := pageHeadsUptoRow.holds Tryd.pinned (OpenSpec.upto pageHeadsSpec)

end Rows
end Go.Proofs.YtmojfhleelhghaaDoor
