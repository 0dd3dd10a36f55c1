/-
  No cell of these rows narrows 'for every input' (looked for: loops, veiled, ifaces, maps, wideKeys, modest, calm, conditions, laid).
  DERIVED. THE GIVEN ROWS OF THIS SEAT. 3 by the template 'for every input the law returns true; each argument reads behind the call as it read before'; 0 by the template 'total and deterministic' (their statements: YtnfkgnjeamnhfaaTotals.lean).
  GIVEN WITH THE SEED: the statements are not yours to turn. If you find one false, say at which input.
  Laid BY PROGRAM, IN A SANDBOX (cutbox-rows.mjs): the forced cells as the released guide's own fill.sh prints them over the translation 4f40689176c0e881… (all of the seat's roots in one cut). By AI agents, Wed Nov 11 2026. No macro, syntax, notation, axiom, sorry.
-/
import Derived.Test.YtnfkgnjeamnhfaaChecked
import GoSem.Claim
import GoSem.ClaimJoined
import GoSem.ClaimMapViews
import Derived.JoinedTies
import Derived.KernelRfl
namespace Go.Proofs.Ytnfkgnjeamnhfaa
/- THE CELL 'sum', in the pinned program and in every row, IS THE sha256 OF THE DUMP (.gsa) THAT YtnfkgnjeamnhfaaProg.lean LOADS. Nothing in Lean hashes anything: it is a label: what it is worth is what the hold of that sum in a sandbox is worth. -/
noncomputable def Try.pinned : Pinned := { name := "ytnfkgnjeamnhfaa", sum := "4f40689176c0e881d017108d2d1e7d4934eb22712cc0430f27384e38299f44d6", checked := Try.checked }
namespace Rows
def none {H : Type} : Left H := { results := [], args := [] }

/-- 'waymarkkeep.Undone': WHATEVER THE INPUT: true; the input reads as it did. -/
def undoneSpec : ChangeSpec := { name := "undone", fn := fun _ => fun
  | [d1, d2, d3] => { results := [.lit (.bool true)], args := [d1, d2, d3] }
  | _ => none }
def undoneRow : OpenClaim := { program := "ytnfkgnjeamnhfaa", sum := "4f40689176c0e881d017108d2d1e7d4934eb22712cc0430f27384e38299f44d6", func := "waymark/waymarkkeep.Undone", spec := "undone", apart := false }
def UndoneSaid : Prop := undoneRow.holds Try.pinned (OpenSpec.ofChange undoneSpec)

/-- ITS FALSE NEIGHBOUR: 'it returns false'. Refute it at one input. -/
def undoneWrong : ChangeSpec := { name := "undone", fn := fun _ => fun
  | [d1, d2, d3] => { results := [.lit (.bool false)], args := [d1, d2, d3] }
  | _ => none }
def UndoneWrongFalsely : Prop := undoneRow.holds Try.pinned (OpenSpec.ofChange undoneWrong)

/-- 'waymarkkeep.Marked': WHATEVER THE INPUT: true; the input reads as it did. -/
def markedSpec : ChangeSpec := { name := "marked", fn := fun _ => fun
  | [d1, d2] => { results := [.lit (.bool true)], args := [d1, d2] }
  | _ => none }
def markedRow : OpenClaim := { program := "ytnfkgnjeamnhfaa", sum := "4f40689176c0e881d017108d2d1e7d4934eb22712cc0430f27384e38299f44d6", func := "waymark/waymarkkeep.Marked", spec := "marked", apart := false }
def MarkedSaid : Prop := markedRow.holds Try.pinned (OpenSpec.ofChange markedSpec)

/-- ITS FALSE NEIGHBOUR: 'it returns false'. Refute it at one input. -/
def markedWrong : ChangeSpec := { name := "marked", fn := fun _ => fun
  | [d1, d2] => { results := [.lit (.bool false)], args := [d1, d2] }
  | _ => none }
def MarkedWrongFalsely : Prop := markedRow.holds Try.pinned (OpenSpec.ofChange markedWrong)

/-- 'waymarkkeep.Gone': WHATEVER THE INPUT: true; the input reads as it did. -/
def goneSpec : ChangeSpec := { name := "gone", fn := fun _ => fun
  | [d1, d2] => { results := [.lit (.bool true)], args := [d1, d2] }
  | _ => none }
def goneRow : OpenClaim := { program := "ytnfkgnjeamnhfaa", sum := "4f40689176c0e881d017108d2d1e7d4934eb22712cc0430f27384e38299f44d6", func := "waymark/waymarkkeep.Gone", spec := "gone", apart := false }
def GoneSaid : Prop := goneRow.holds Try.pinned (OpenSpec.ofChange goneSpec)

/-- ITS FALSE NEIGHBOUR: 'it returns false'. Refute it at one input. -/
def goneWrong : ChangeSpec := { name := "gone", fn := fun _ => fun
  | [d1, d2] => { results := [.lit (.bool false)], args := [d1, d2] }
  | _ => none }
def GoneWrongFalsely : Prop := goneRow.holds Try.pinned (OpenSpec.ofChange goneWrong)

/- THE SECOND FORM. 'bulk': how many values and letters a reading holds, each counted each time it is reached (what is shared counts as often as it is met; a slice's spare places count too). A statement '..UptoSaid' is the law's where the arguments, and the package variables that the reading takes, are together of bulk at most 1048576: NARROWER than '..Said'. Prove '..Said' where nothing that the law and all that it calls make is longer than what came in: it says more and counts as full. Else prove '..UptoSaid'. A law counts once. -/
mutual
def uptoBulk {H : Type} : DataW H → Nat
  | .lit (.string bytes) => bytes.length + 1
  | .lit _ => 1
  | .nil => 1
  | .ptr d => uptoBulk d + 1
  | .slice elems spare => uptoBulkAll elems + uptoBulkAll spare + 1
  | .agg parts => uptoBulkAll parts + 1
  | .iface _ d => uptoBulk d + 1
  | .map entries => uptoBulkEntries entries + 1
  | .held _ => 1
def uptoBulkAll {H : Type} : List (DataW H) → Nat
  | [] => 0
  | d :: r => uptoBulk d + uptoBulkAll r
def uptoBulkEntries {H : Type} : List (Lit × DataW H) → Nat
  | [] => 0
  | x :: r => uptoBulkEntry x + uptoBulkEntries r
def uptoBulkEntry {H : Type} : Lit × DataW H → Nat
  | (.string bytes, d) => bytes.length + uptoBulk d + 1
  | (_, d) => uptoBulk d + 1
 end
def uptoSmall : (H : Type) → List (DataW H) → Bool := fun _ ds => decide (uptoBulkAll ds ≤ 1048576)
def OpenSpec.upto (s : _root_.Go.ChangeSpec) : _root_.Go.OpenSpec := { _root_.Go.OpenSpec.ofChange s with cond := some uptoSmall }

/-- 'waymarkkeep.Undone', WHERE WHAT IT READS IS OF BULK AT MOST 1048576: true; the input reads as it did. -/
def undoneUptoRow : OpenClaim := { program := "ytnfkgnjeamnhfaa", sum := "4f40689176c0e881d017108d2d1e7d4934eb22712cc0430f27384e38299f44d6", func := "waymark/waymarkkeep.Undone", spec := "undone", apart := false, narrowed := true }
def UndoneUptoSaid : Prop := undoneUptoRow.holds Try.pinned (OpenSpec.upto undoneSpec)

/-- 'waymarkkeep.Marked', WHERE WHAT IT READS IS OF BULK AT MOST 1048576: true; the input reads as it did. -/
def markedUptoRow : OpenClaim := { program := "ytnfkgnjeamnhfaa", sum := "4f40689176c0e881d017108d2d1e7d4934eb22712cc0430f27384e38299f44d6", func := "waymark/waymarkkeep.Marked", spec := "marked", apart := false, narrowed := true }
def MarkedUptoSaid : Prop := markedUptoRow.holds Try.pinned (OpenSpec.upto markedSpec)

/-- 'waymarkkeep.Gone', WHERE WHAT IT READS IS OF BULK AT MOST 1048576: true; the input reads as it did. -/
def goneUptoRow : OpenClaim := { program := "ytnfkgnjeamnhfaa", sum := "4f40689176c0e881d017108d2d1e7d4934eb22712cc0430f27384e38299f44d6", func := "waymark/waymarkkeep.Gone", spec := "gone", apart := false, narrowed := true }
def GoneUptoSaid : Prop := goneUptoRow.holds Try.pinned (OpenSpec.upto goneSpec)

end Rows
end Go.Proofs.Ytnfkgnjeamnhfaa
