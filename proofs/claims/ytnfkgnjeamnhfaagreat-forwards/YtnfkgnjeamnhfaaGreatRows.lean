/-
  No cell of these rows narrows 'for every input' (looked for: loops, veiled, ifaces, maps, wideKeys, modest, calm, conditions, laid).
  DERIVED. THE GIVEN ROWS OF THIS SEAT. 7 by the template 'for every input the law returns true; each argument reads behind the call as it read before'; 0 by the template 'total and deterministic' (their statements: YtnfkgnjeamnhfaaGreatTotals.lean).
  GIVEN WITH THE SEED: the statements are not yours to turn. If you find one false, say at which input.
  Laid BY PROGRAM, IN A SANDBOX (cutbox-rows.mjs): the forced cells as the released guide's own fill.sh prints them over the translation 028de8a720cac45f… (all of the seat's roots in one cut). By AI agents, Wed Nov 11 2026. No macro, syntax, notation, axiom, sorry.
-/
import Derived.Test.YtnfkgnjeamnhfaaGreatChecked
import GoSem.Claim
import GoSem.ClaimJoined
import GoSem.ClaimMapViews
import Derived.JoinedTies
import Derived.KernelRfl
namespace Go.Proofs.YtnfkgnjeamnhfaaGreat
/- THE CELL 'sum', in the pinned program and in every row, IS THE sha256 OF THE DUMP (.gsa) THAT YtnfkgnjeamnhfaaGreatProg.lean LOADS. Nothing in Lean hashes anything: it is a label: what it is worth is what the hold of that sum in a sandbox is worth. -/
noncomputable def Tryz.pinned : Pinned := { name := "ytnfkgnjeamnhfaagreat", sum := "028de8a720cac45fc5409fe72d7e24a400ee4dabecce1775a66269162cfdc6e4", checked := Tryz.checked }
namespace Rows
def none {H : Type} : Left H := { results := [], args := [] }

/-- 'waymarklaw.Groups': WHATEVER THE INPUT: true; the input reads as it did. -/
def groupsSpec : ChangeSpec := { name := "groups", fn := fun _ => fun
  | [d1, d2, d3, d4] => { results := [.lit (.bool true)], args := [d1, d2, d3, d4] }
  | _ => none }
def groupsRow : OpenClaim := { program := "ytnfkgnjeamnhfaagreat", sum := "028de8a720cac45fc5409fe72d7e24a400ee4dabecce1775a66269162cfdc6e4", func := "waymark/waymarklaw.Groups", spec := "groups", recurses := true, apart := false }
def GroupsSaid : Prop := groupsRow.holds Tryz.pinned (OpenSpec.ofChange groupsSpec)

/-- ITS FALSE NEIGHBOUR: 'it returns false'. Refute it at one input. -/
def groupsWrong : ChangeSpec := { name := "groups", fn := fun _ => fun
  | [d1, d2, d3, d4] => { results := [.lit (.bool false)], args := [d1, d2, d3, d4] }
  | _ => none }
def GroupsWrongFalsely : Prop := groupsRow.holds Tryz.pinned (OpenSpec.ofChange groupsWrong)

/-- 'waymarklaw.Routes': WHATEVER THE INPUT: true; the input reads as it did. -/
def routesSpec : ChangeSpec := { name := "routes", fn := fun _ => fun
  | [d1, d2, d3, d4] => { results := [.lit (.bool true)], args := [d1, d2, d3, d4] }
  | _ => none }
def routesRow : OpenClaim := { program := "ytnfkgnjeamnhfaagreat", sum := "028de8a720cac45fc5409fe72d7e24a400ee4dabecce1775a66269162cfdc6e4", func := "waymark/waymarklaw.Routes", spec := "routes", recurses := true, apart := false }
def RoutesSaid : Prop := routesRow.holds Tryz.pinned (OpenSpec.ofChange routesSpec)

/-- ITS FALSE NEIGHBOUR: 'it returns false'. Refute it at one input. -/
def routesWrong : ChangeSpec := { name := "routes", fn := fun _ => fun
  | [d1, d2, d3, d4] => { results := [.lit (.bool false)], args := [d1, d2, d3, d4] }
  | _ => none }
def RoutesWrongFalsely : Prop := routesRow.holds Tryz.pinned (OpenSpec.ofChange routesWrong)

/-- 'waymarklaw.Trees': WHATEVER THE INPUT: true; the input reads as it did. -/
def treesSpec : ChangeSpec := { name := "trees", fn := fun _ => fun
  | [d1, d2, d3, d4] => { results := [.lit (.bool true)], args := [d1, d2, d3, d4] }
  | _ => none }
def treesRow : OpenClaim := { program := "ytnfkgnjeamnhfaagreat", sum := "028de8a720cac45fc5409fe72d7e24a400ee4dabecce1775a66269162cfdc6e4", func := "waymark/waymarklaw.Trees", spec := "trees", recurses := true, apart := false }
def TreesSaid : Prop := treesRow.holds Tryz.pinned (OpenSpec.ofChange treesSpec)

/-- ITS FALSE NEIGHBOUR: 'it returns false'. Refute it at one input. -/
def treesWrong : ChangeSpec := { name := "trees", fn := fun _ => fun
  | [d1, d2, d3, d4] => { results := [.lit (.bool false)], args := [d1, d2, d3, d4] }
  | _ => none }
def TreesWrongFalsely : Prop := treesRow.holds Tryz.pinned (OpenSpec.ofChange treesWrong)

/-- 'waymarklaw.Lookups': WHATEVER THE INPUT: true; the input reads as it did. -/
def lookupsSpec : ChangeSpec := { name := "lookups", fn := fun _ => fun
  | [d1, d2, d3, d4] => { results := [.lit (.bool true)], args := [d1, d2, d3, d4] }
  | _ => none }
def lookupsRow : OpenClaim := { program := "ytnfkgnjeamnhfaagreat", sum := "028de8a720cac45fc5409fe72d7e24a400ee4dabecce1775a66269162cfdc6e4", func := "waymark/waymarklaw.Lookups", spec := "lookups", recurses := true, apart := false }
def LookupsSaid : Prop := lookupsRow.holds Tryz.pinned (OpenSpec.ofChange lookupsSpec)

/-- ITS FALSE NEIGHBOUR: 'it returns false'. Refute it at one input. -/
def lookupsWrong : ChangeSpec := { name := "lookups", fn := fun _ => fun
  | [d1, d2, d3, d4] => { results := [.lit (.bool false)], args := [d1, d2, d3, d4] }
  | _ => none }
def LookupsWrongFalsely : Prop := lookupsRow.holds Tryz.pinned (OpenSpec.ofChange lookupsWrong)

/-- 'waymarklaw.Picks': WHATEVER THE INPUT: true; the input reads as it did. -/
def picksSpec : ChangeSpec := { name := "picks", fn := fun _ => fun
  | [d1, d2, d3, d4] => { results := [.lit (.bool true)], args := [d1, d2, d3, d4] }
  | _ => none }
def picksRow : OpenClaim := { program := "ytnfkgnjeamnhfaagreat", sum := "028de8a720cac45fc5409fe72d7e24a400ee4dabecce1775a66269162cfdc6e4", func := "waymark/waymarklaw.Picks", spec := "picks", recurses := true, apart := false }
def PicksSaid : Prop := picksRow.holds Tryz.pinned (OpenSpec.ofChange picksSpec)

/-- ITS FALSE NEIGHBOUR: 'it returns false'. Refute it at one input. -/
def picksWrong : ChangeSpec := { name := "picks", fn := fun _ => fun
  | [d1, d2, d3, d4] => { results := [.lit (.bool false)], args := [d1, d2, d3, d4] }
  | _ => none }
def PicksWrongFalsely : Prop := picksRow.holds Tryz.pinned (OpenSpec.ofChange picksWrong)

/-- 'waymarklaw.Forwards': WHATEVER THE INPUT: true; the input reads as it did. -/
def forwardsSpec : ChangeSpec := { name := "forwards", fn := fun _ => fun
  | [d1, d2, d3, d4, d5, d6] => { results := [.lit (.bool true)], args := [d1, d2, d3, d4, d5, d6] }
  | _ => none }
def forwardsRow : OpenClaim := { program := "ytnfkgnjeamnhfaagreat", sum := "028de8a720cac45fc5409fe72d7e24a400ee4dabecce1775a66269162cfdc6e4", func := "waymark/waymarklaw.Forwards", spec := "forwards", recurses := true, apart := false }
def ForwardsSaid : Prop := forwardsRow.holds Tryz.pinned (OpenSpec.ofChange forwardsSpec)

/-- ITS FALSE NEIGHBOUR: 'it returns false'. Refute it at one input. -/
def forwardsWrong : ChangeSpec := { name := "forwards", fn := fun _ => fun
  | [d1, d2, d3, d4, d5, d6] => { results := [.lit (.bool false)], args := [d1, d2, d3, d4, d5, d6] }
  | _ => none }
def ForwardsWrongFalsely : Prop := forwardsRow.holds Tryz.pinned (OpenSpec.ofChange forwardsWrong)

/-- 'waymarklaw.All': WHATEVER THE INPUT: true; the input reads as it did. -/
def allSpec : ChangeSpec := { name := "all", fn := fun _ => fun
  | [d1, d2, d3, d4] => { results := [.lit (.bool true)], args := [d1, d2, d3, d4] }
  | _ => none }
def allRow : OpenClaim := { program := "ytnfkgnjeamnhfaagreat", sum := "028de8a720cac45fc5409fe72d7e24a400ee4dabecce1775a66269162cfdc6e4", func := "waymark/waymarklaw.All", spec := "all", recurses := true, apart := false }
def AllSaid : Prop := allRow.holds Tryz.pinned (OpenSpec.ofChange allSpec)

/-- ITS FALSE NEIGHBOUR: 'it returns false'. Refute it at one input. -/
def allWrong : ChangeSpec := { name := "all", fn := fun _ => fun
  | [d1, d2, d3, d4] => { results := [.lit (.bool false)], args := [d1, d2, d3, d4] }
  | _ => none }
def AllWrongFalsely : Prop := allRow.holds Tryz.pinned (OpenSpec.ofChange allWrong)

/- THE SECOND FORM. 'bulk': how many values and letters a reading holds, each counted each time it is reached (what is shared counts as often as it is met; a slice's spare places count too). A statement '..UptoSaid' is the law's where the arguments, and the package variables that the reading takes, are together of bulk at most 1048576: NARROWER than '..Said'. Prove '..Said' where nothing that the law and all that it calls make is longer than what came in: it says more and counts as full. Else prove '..UptoSaid'. A law counts once. -/
mutual
def uptoBulk {H : Type} : DataW H → Nat
  | .lit (.string bytes) => bytes.length + 1
  | .lit _ => 1
  | .nil => 1
  | .ptr d => uptoBulk d + 1
  | .slice elems spare => uptoBulkAll elems + uptoBulkAll spare + 1
  | .agg parts => uptoBulkAll parts + 1
  | .iface _ d => uptoBulk d + 1
  | .map entries => uptoBulkEntries entries + 1
  | .held _ => 1
def uptoBulkAll {H : Type} : List (DataW H) → Nat
  | [] => 0
  | d :: r => uptoBulk d + uptoBulkAll r
def uptoBulkEntries {H : Type} : List (Lit × DataW H) → Nat
  | [] => 0
  | x :: r => uptoBulkEntry x + uptoBulkEntries r
def uptoBulkEntry {H : Type} : Lit × DataW H → Nat
  | (.string bytes, d) => bytes.length + uptoBulk d + 1
  | (_, d) => uptoBulk d + 1
 end
def uptoSmall : (H : Type) → List (DataW H) → Bool := fun _ ds => decide (uptoBulkAll ds ≤ 1048576)
def OpenSpec.upto (s : _root_.Go.ChangeSpec) : _root_.Go.OpenSpec := { _root_.Go.OpenSpec.ofChange s with cond := some uptoSmall }

/-- 'waymarklaw.Groups', WHERE WHAT IT READS IS OF BULK AT MOST 1048576: true; the input reads as it did. -/
def groupsUptoRow : OpenClaim := { program := "ytnfkgnjeamnhfaagreat", sum := "028de8a720cac45fc5409fe72d7e24a400ee4dabecce1775a66269162cfdc6e4", func := "waymark/waymarklaw.Groups", spec := "groups", recurses := true, apart := false, narrowed := true }
def GroupsUptoSaid : Prop := groupsUptoRow.holds Tryz.pinned (OpenSpec.upto groupsSpec)

/-- 'waymarklaw.Routes', WHERE WHAT IT READS IS OF BULK AT MOST 1048576: true; the input reads as it did. -/
def routesUptoRow : OpenClaim := { program := "ytnfkgnjeamnhfaagreat", sum := "028de8a720cac45fc5409fe72d7e24a400ee4dabecce1775a66269162cfdc6e4", func := "waymark/waymarklaw.Routes", spec := "routes", recurses := true, apart := false, narrowed := true }
def RoutesUptoSaid : Prop := routesUptoRow.holds Tryz.pinned (OpenSpec.upto routesSpec)

/-- 'waymarklaw.Trees', WHERE WHAT IT READS IS OF BULK AT MOST 1048576: true; the input reads as it did. -/
def treesUptoRow : OpenClaim := { program := "ytnfkgnjeamnhfaagreat", sum := "028de8a720cac45fc5409fe72d7e24a400ee4dabecce1775a66269162cfdc6e4", func := "waymark/waymarklaw.Trees", spec := "trees", recurses := true, apart := false, narrowed := true }
def TreesUptoSaid : Prop := treesUptoRow.holds Tryz.pinned (OpenSpec.upto treesSpec)

/-- 'waymarklaw.Lookups', WHERE WHAT IT READS IS OF BULK AT MOST 1048576: true; the input reads as it did. -/
def lookupsUptoRow : OpenClaim := { program := "ytnfkgnjeamnhfaagreat", sum := "028de8a720cac45fc5409fe72d7e24a400ee4dabecce1775a66269162cfdc6e4", func := "waymark/waymarklaw.Lookups", spec := "lookups", recurses := true, apart := false, narrowed := true }
def LookupsUptoSaid : Prop := lookupsUptoRow.holds Tryz.pinned (OpenSpec.upto lookupsSpec)

/-- 'waymarklaw.Picks', WHERE WHAT IT READS IS OF BULK AT MOST 1048576: true; the input reads as it did. -/
def picksUptoRow : OpenClaim := { program := "ytnfkgnjeamnhfaagreat", sum := "028de8a720cac45fc5409fe72d7e24a400ee4dabecce1775a66269162cfdc6e4", func := "waymark/waymarklaw.Picks", spec := "picks", recurses := true, apart := false, narrowed := true }
def PicksUptoSaid : Prop := picksUptoRow.holds Tryz.pinned (OpenSpec.upto picksSpec)

/-- 'waymarklaw.Forwards', WHERE WHAT IT READS IS OF BULK AT MOST 1048576: true; the input reads as it did. -/
def forwardsUptoRow : OpenClaim := { program := "ytnfkgnjeamnhfaagreat", sum := "028de8a720cac45fc5409fe72d7e24a400ee4dabecce1775a66269162cfdc6e4", func := "waymark/waymarklaw.Forwards", spec := "forwards", recurses := true, apart := false, narrowed := true }
def ForwardsUptoSaid : Prop := forwardsUptoRow.holds Tryz.pinned (OpenSpec.upto forwardsSpec)

/-- 'waymarklaw.All', WHERE WHAT IT READS IS OF BULK AT MOST 1048576: true; the input reads as it did. -/
def allUptoRow : OpenClaim := { program := "ytnfkgnjeamnhfaagreat", sum := "028de8a720cac45fc5409fe72d7e24a400ee4dabecce1775a66269162cfdc6e4", func := "waymark/waymarklaw.All", spec := "all", recurses := true, apart := false, narrowed := true }
def AllUptoSaid : Prop := allUptoRow.holds Tryz.pinned (OpenSpec.upto allSpec)

end Rows
end Go.Proofs.YtnfkgnjeamnhfaaGreat
