/-
  No cell of these rows narrows 'for every input' (looked for: loops, veiled, ifaces, maps, wideKeys, modest, calm, conditions, laid).
  DERIVED. THE GIVEN ROWS OF THIS SEAT. 5 by the template 'for every input the law returns true; each argument reads behind the call as it read before'; 0 by the template 'total and deterministic' (their statements: YtnfkgnjeamnhfabTotals.lean).
  GIVEN WITH THE SEED: the statements are not yours to turn. If you find one false, say at which input.
  Laid BY PROGRAM, IN A SANDBOX (cutbox-rows.mjs): the forced cells as the released guide's own fill.sh prints them over the translation 5f18e57b1ca30984… (all of the seat's roots in one cut). By AI agents, Wed Nov 11 2026. No macro, syntax, notation, axiom, sorry.
-/
import Derived.Test.YtnfkgnjeamnhfabChecked
import GoSem.Claim
import GoSem.ClaimJoined
import GoSem.ClaimMapViews
import Derived.JoinedTies
import Derived.KernelRfl
namespace Go.Proofs.Ytnfkgnjeamnhfab
/- THE CELL 'sum', in the pinned program and in every row, IS THE sha256 OF THE DUMP (.gsa) THAT YtnfkgnjeamnhfabProg.lean LOADS. Nothing in Lean hashes anything: it is a label: what it is worth is what the hold of that sum in a sandbox is worth. -/
noncomputable def Try.pinned : Pinned := { name := "ytnfkgnjeamnhfab", sum := "5f18e57b1ca30984b54d953ae75dec2ad308235f5e6b788d4947b2c80181acb1", checked := Try.checked }
namespace Rows
def none {H : Type} : Left H := { results := [], args := [] }

/-- 'waymarkkeep.Longest': WHATEVER THE INPUT: true; the input reads as it did. -/
def longestSpec : ChangeSpec := { name := "longest", fn := fun _ => fun
  | [d1, d2, d3] => { results := [.lit (.bool true)], args := [d1, d2, d3] }
  | _ => none }
def longestRow : OpenClaim := { program := "ytnfkgnjeamnhfab", sum := "5f18e57b1ca30984b54d953ae75dec2ad308235f5e6b788d4947b2c80181acb1", func := "waymark/waymarkkeep.Longest", spec := "longest", apart := false }
def LongestSaid : Prop := longestRow.holds Try.pinned (OpenSpec.ofChange longestSpec)

/-- ITS FALSE NEIGHBOUR: 'it returns false'. Refute it at one input. -/
def longestWrong : ChangeSpec := { name := "longest", fn := fun _ => fun
  | [d1, d2, d3] => { results := [.lit (.bool false)], args := [d1, d2, d3] }
  | _ => none }
def LongestWrongFalsely : Prop := longestRow.holds Try.pinned (OpenSpec.ofChange longestWrong)

/-- 'waymarkkeep.Few': WHATEVER THE INPUT: true; the input reads as it did. -/
def fewSpec : ChangeSpec := { name := "few", fn := fun _ => fun
  | [d1, d2, d3] => { results := [.lit (.bool true)], args := [d1, d2, d3] }
  | _ => none }
def fewRow : OpenClaim := { program := "ytnfkgnjeamnhfab", sum := "5f18e57b1ca30984b54d953ae75dec2ad308235f5e6b788d4947b2c80181acb1", func := "waymark/waymarkkeep.Few", spec := "few", apart := false }
def FewSaid : Prop := fewRow.holds Try.pinned (OpenSpec.ofChange fewSpec)

/-- ITS FALSE NEIGHBOUR: 'it returns false'. Refute it at one input. -/
def fewWrong : ChangeSpec := { name := "few", fn := fun _ => fun
  | [d1, d2, d3] => { results := [.lit (.bool false)], args := [d1, d2, d3] }
  | _ => none }
def FewWrongFalsely : Prop := fewRow.holds Try.pinned (OpenSpec.ofChange fewWrong)

/-- 'waymarkkeep.Ordered': WHATEVER THE INPUT: true; the input reads as it did. -/
def orderedSpec : ChangeSpec := { name := "ordered", fn := fun _ => fun
  | [d1, d2, d3] => { results := [.lit (.bool true)], args := [d1, d2, d3] }
  | _ => none }
def orderedRow : OpenClaim := { program := "ytnfkgnjeamnhfab", sum := "5f18e57b1ca30984b54d953ae75dec2ad308235f5e6b788d4947b2c80181acb1", func := "waymark/waymarkkeep.Ordered", spec := "ordered", apart := false }
def OrderedSaid : Prop := orderedRow.holds Try.pinned (OpenSpec.ofChange orderedSpec)

/-- ITS FALSE NEIGHBOUR: 'it returns false'. Refute it at one input. -/
def orderedWrong : ChangeSpec := { name := "ordered", fn := fun _ => fun
  | [d1, d2, d3] => { results := [.lit (.bool false)], args := [d1, d2, d3] }
  | _ => none }
def OrderedWrongFalsely : Prop := orderedRow.holds Try.pinned (OpenSpec.ofChange orderedWrong)

/-- 'waymarkkeep.Sent': WHATEVER THE INPUT: true; the input reads as it did. -/
def sentSpec : ChangeSpec := { name := "sent", fn := fun _ => fun
  | [d1, d2, d3, d4, d5] => { results := [.lit (.bool true)], args := [d1, d2, d3, d4, d5] }
  | _ => none }
def sentRow : OpenClaim := { program := "ytnfkgnjeamnhfab", sum := "5f18e57b1ca30984b54d953ae75dec2ad308235f5e6b788d4947b2c80181acb1", func := "waymark/waymarkkeep.Sent", spec := "sent", apart := false }
def SentSaid : Prop := sentRow.holds Try.pinned (OpenSpec.ofChange sentSpec)

/-- ITS FALSE NEIGHBOUR: 'it returns false'. Refute it at one input. -/
def sentWrong : ChangeSpec := { name := "sent", fn := fun _ => fun
  | [d1, d2, d3, d4, d5] => { results := [.lit (.bool false)], args := [d1, d2, d3, d4, d5] }
  | _ => none }
def SentWrongFalsely : Prop := sentRow.holds Try.pinned (OpenSpec.ofChange sentWrong)

/-- 'waymarkkeep.Answers': WHATEVER THE INPUT: true; the input reads as it did. -/
def answersSpec : ChangeSpec := { name := "answers", fn := fun _ => fun
  | [d1, d2, d3, d4, d5] => { results := [.lit (.bool true)], args := [d1, d2, d3, d4, d5] }
  | _ => none }
def answersRow : OpenClaim := { program := "ytnfkgnjeamnhfab", sum := "5f18e57b1ca30984b54d953ae75dec2ad308235f5e6b788d4947b2c80181acb1", func := "waymark/waymarkkeep.Answers", spec := "answers", apart := false }
def AnswersSaid : Prop := answersRow.holds Try.pinned (OpenSpec.ofChange answersSpec)

/-- ITS FALSE NEIGHBOUR: 'it returns false'. Refute it at one input. -/
def answersWrong : ChangeSpec := { name := "answers", fn := fun _ => fun
  | [d1, d2, d3, d4, d5] => { results := [.lit (.bool false)], args := [d1, d2, d3, d4, d5] }
  | _ => none }
def AnswersWrongFalsely : Prop := answersRow.holds Try.pinned (OpenSpec.ofChange answersWrong)

/- THE SECOND FORM. 'bulk': how many values and letters a reading holds, each counted each time it is reached (what is shared counts as often as it is met; a slice's spare places count too). A statement '..UptoSaid' is the law's where the arguments, and the package variables that the reading takes, are together of bulk at most 1048576: NARROWER than '..Said'. Prove '..Said' where nothing that the law and all that it calls make is longer than what came in: it says more and counts as full. Else prove '..UptoSaid'. A law counts once. -/
mutual
def uptoBulk {H : Type} : DataW H → Nat
  | .lit (.string bytes) => bytes.length + 1
  | .lit _ => 1
  | .nil => 1
  | .ptr d => uptoBulk d + 1
  | .slice elems spare => uptoBulkAll elems + uptoBulkAll spare + 1
  | .agg parts => uptoBulkAll parts + 1
  | .iface _ d => uptoBulk d + 1
  | .map entries => uptoBulkEntries entries + 1
  | .held _ => 1
def uptoBulkAll {H : Type} : List (DataW H) → Nat
  | [] => 0
  | d :: r => uptoBulk d + uptoBulkAll r
def uptoBulkEntries {H : Type} : List (Lit × DataW H) → Nat
  | [] => 0
  | x :: r => uptoBulkEntry x + uptoBulkEntries r
def uptoBulkEntry {H : Type} : Lit × DataW H → Nat
  | (.string bytes, d) => bytes.length + uptoBulk d + 1
  | (_, d) => uptoBulk d + 1
 end
def uptoSmall : (H : Type) → List (DataW H) → Bool := fun _ ds => decide (uptoBulkAll ds ≤ 1048576)
def OpenSpec.upto (s : _root_.Go.ChangeSpec) : _root_.Go.OpenSpec := { _root_.Go.OpenSpec.ofChange s with cond := some uptoSmall }

/-- 'waymarkkeep.Longest', WHERE WHAT IT READS IS OF BULK AT MOST 1048576: true; the input reads as it did. -/
def longestUptoRow : OpenClaim := { program := "ytnfkgnjeamnhfab", sum := "5f18e57b1ca30984b54d953ae75dec2ad308235f5e6b788d4947b2c80181acb1", func := "waymark/waymarkkeep.Longest", spec := "longest", apart := false, narrowed := true }
def LongestUptoSaid : Prop := longestUptoRow.holds Try.pinned (OpenSpec.upto longestSpec)

/-- 'waymarkkeep.Few', WHERE WHAT IT READS IS OF BULK AT MOST 1048576: true; the input reads as it did. -/
def fewUptoRow : OpenClaim := { program := "ytnfkgnjeamnhfab", sum := "5f18e57b1ca30984b54d953ae75dec2ad308235f5e6b788d4947b2c80181acb1", func := "waymark/waymarkkeep.Few", spec := "few", apart := false, narrowed := true }
def FewUptoSaid : Prop := fewUptoRow.holds Try.pinned (OpenSpec.upto fewSpec)

/-- 'waymarkkeep.Ordered', WHERE WHAT IT READS IS OF BULK AT MOST 1048576: true; the input reads as it did. -/
def orderedUptoRow : OpenClaim := { program := "ytnfkgnjeamnhfab", sum := "5f18e57b1ca30984b54d953ae75dec2ad308235f5e6b788d4947b2c80181acb1", func := "waymark/waymarkkeep.Ordered", spec := "ordered", apart := false, narrowed := true }
def OrderedUptoSaid : Prop := orderedUptoRow.holds Try.pinned (OpenSpec.upto orderedSpec)

/-- 'waymarkkeep.Sent', WHERE WHAT IT READS IS OF BULK AT MOST 1048576: true; the input reads as it did. -/
def sentUptoRow : OpenClaim := { program := "ytnfkgnjeamnhfab", sum := "5f18e57b1ca30984b54d953ae75dec2ad308235f5e6b788d4947b2c80181acb1", func := "waymark/waymarkkeep.Sent", spec := "sent", apart := false, narrowed := true }
def SentUptoSaid : Prop := sentUptoRow.holds Try.pinned (OpenSpec.upto sentSpec)

/-- 'waymarkkeep.Answers', WHERE WHAT IT READS IS OF BULK AT MOST 1048576: true; the input reads as it did. -/
def answersUptoRow : OpenClaim := { program := "ytnfkgnjeamnhfab", sum := "5f18e57b1ca30984b54d953ae75dec2ad308235f5e6b788d4947b2c80181acb1", func := "waymark/waymarkkeep.Answers", spec := "answers", apart := false, narrowed := true }
def AnswersUptoSaid : Prop := answersUptoRow.holds Try.pinned (OpenSpec.upto answersSpec)

end Rows
end Go.Proofs.Ytnfkgnjeamnhfab
