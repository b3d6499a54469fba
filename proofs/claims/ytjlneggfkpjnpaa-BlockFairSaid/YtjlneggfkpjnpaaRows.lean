/-
  No cell of these rows narrows 'for every input' (looked for: loops, veiled, ifaces, maps, wideKeys, modest, calm, conditions, laid).
  DERIVED. THE GIVEN ROWS OF THIS SEAT. 5 by the template 'for every input the law returns true; each argument reads behind the call as it read before'; 0 by the template 'total and deterministic' (their statements: YtjlneggfkpjnpaaTotals.lean).
  GIVEN WITH THE SEED: the statements are not yours to turn. If you find one false, say at which input.
  Laid BY PROGRAM, IN A SANDBOX (cutbox-rows.mjs): the forced cells as the released guide's own fill.sh prints them over the translation e6b570abdfc995fd… (all of the seat's roots in one cut). By AI agents, Wed Nov 11 2026. No macro, syntax, notation, axiom, sorry.
-/
import Derived.Test.YtjlneggfkpjnpaaChecked
import GoSem.Claim
import GoSem.ClaimJoined
import GoSem.ClaimMapViews
import Derived.JoinedTies
import Derived.KernelRfl
namespace Go.Proofs.Ytjlneggfkpjnpaa
/- THE CELL 'sum', in the pinned program and in every row, IS THE sha256 OF THE DUMP (.gsa) THAT YtjlneggfkpjnpaaProg.lean LOADS. Nothing in Lean hashes anything: it is a label: what it is worth is what the hold of that sum in a sandbox is worth. -/
noncomputable def Try.pinned : Pinned := { name := "ytjlneggfkpjnpaa", sum := "e6b570abdfc995fdb20155aa0f215215ed88a0e58893b9ba2ff37d53a6dacf51", checked := Try.checked }
namespace Rows
def none {H : Type} : Left H := { results := [], args := [] }

/-- 'equipoiselaw07.BlockDraws': WHATEVER THE INPUT: true; the input reads as it did. -/
def blockDrawsSpec : ChangeSpec := { name := "blockDraws", fn := fun _ => fun
  | [d1, d2, d3, d4] => { results := [.lit (.bool true)], args := [d1, d2, d3, d4] }
  | _ => none }
def blockDrawsRow : OpenClaim := { program := "ytjlneggfkpjnpaa", sum := "e6b570abdfc995fdb20155aa0f215215ed88a0e58893b9ba2ff37d53a6dacf51", func := "equipoise/equipoiselaw07.BlockDraws", spec := "blockDraws", unfollowed := true, recurses := true, apart := false }
def BlockDrawsSaid : Prop := blockDrawsRow.holds Try.pinned (OpenSpec.ofChange blockDrawsSpec)

/-- ITS FALSE NEIGHBOUR: 'it returns false'. Refute it at one input. -/
def blockDrawsWrong : ChangeSpec := { name := "blockDraws", fn := fun _ => fun
  | [d1, d2, d3, d4] => { results := [.lit (.bool false)], args := [d1, d2, d3, d4] }
  | _ => none }
def BlockDrawsWrongFalsely : Prop := blockDrawsRow.holds Try.pinned (OpenSpec.ofChange blockDrawsWrong)

/-- 'equipoiselaw07.BlockWalks': WHATEVER THE INPUT: true; the input reads as it did. -/
def blockWalksSpec : ChangeSpec := { name := "blockWalks", fn := fun _ => fun
  | [d1, d2] => { results := [.lit (.bool true)], args := [d1, d2] }
  | _ => none }
def blockWalksRow : OpenClaim := { program := "ytjlneggfkpjnpaa", sum := "e6b570abdfc995fdb20155aa0f215215ed88a0e58893b9ba2ff37d53a6dacf51", func := "equipoise/equipoiselaw07.BlockWalks", spec := "blockWalks", unfollowed := true, recurses := true, apart := false }
def BlockWalksSaid : Prop := blockWalksRow.holds Try.pinned (OpenSpec.ofChange blockWalksSpec)

/-- ITS FALSE NEIGHBOUR: 'it returns false'. Refute it at one input. -/
def blockWalksWrong : ChangeSpec := { name := "blockWalks", fn := fun _ => fun
  | [d1, d2] => { results := [.lit (.bool false)], args := [d1, d2] }
  | _ => none }
def BlockWalksWrongFalsely : Prop := blockWalksRow.holds Try.pinned (OpenSpec.ofChange blockWalksWrong)

/-- 'equipoiselaw07.BlockEven': WHATEVER THE INPUT: true; the input reads as it did. -/
def blockEvenSpec : ChangeSpec := { name := "blockEven", fn := fun _ => fun
  | [d1, d2] => { results := [.lit (.bool true)], args := [d1, d2] }
  | _ => none }
def blockEvenRow : OpenClaim := { program := "ytjlneggfkpjnpaa", sum := "e6b570abdfc995fdb20155aa0f215215ed88a0e58893b9ba2ff37d53a6dacf51", func := "equipoise/equipoiselaw07.BlockEven", spec := "blockEven", unfollowed := true, recurses := true, apart := false }
def BlockEvenSaid : Prop := blockEvenRow.holds Try.pinned (OpenSpec.ofChange blockEvenSpec)

/-- ITS FALSE NEIGHBOUR: 'it returns false'. Refute it at one input. -/
def blockEvenWrong : ChangeSpec := { name := "blockEven", fn := fun _ => fun
  | [d1, d2] => { results := [.lit (.bool false)], args := [d1, d2] }
  | _ => none }
def BlockEvenWrongFalsely : Prop := blockEvenRow.holds Try.pinned (OpenSpec.ofChange blockEvenWrong)

/-- 'equipoiselaw07.BlockFair': WHATEVER THE INPUT: true; the input reads as it did. -/
def blockFairSpec : ChangeSpec := { name := "blockFair", fn := fun _ => fun
  | [d1, d2, d3] => { results := [.lit (.bool true)], args := [d1, d2, d3] }
  | _ => none }
def blockFairRow : OpenClaim := { program := "ytjlneggfkpjnpaa", sum := "e6b570abdfc995fdb20155aa0f215215ed88a0e58893b9ba2ff37d53a6dacf51", func := "equipoise/equipoiselaw07.BlockFair", spec := "blockFair", unfollowed := true, recurses := true, apart := false }
def BlockFairSaid : Prop := blockFairRow.holds Try.pinned (OpenSpec.ofChange blockFairSpec)

/-- ITS FALSE NEIGHBOUR: 'it returns false'. Refute it at one input. -/
def blockFairWrong : ChangeSpec := { name := "blockFair", fn := fun _ => fun
  | [d1, d2, d3] => { results := [.lit (.bool false)], args := [d1, d2, d3] }
  | _ => none }
def BlockFairWrongFalsely : Prop := blockFairRow.holds Try.pinned (OpenSpec.ofChange blockFairWrong)

/-- 'equipoiselaw07.BlockOnly': WHATEVER THE INPUT: true; the input reads as it did. -/
def blockOnlySpec : ChangeSpec := { name := "blockOnly", fn := fun _ => fun
  | [d1, d2, d3] => { results := [.lit (.bool true)], args := [d1, d2, d3] }
  | _ => none }
def blockOnlyRow : OpenClaim := { program := "ytjlneggfkpjnpaa", sum := "e6b570abdfc995fdb20155aa0f215215ed88a0e58893b9ba2ff37d53a6dacf51", func := "equipoise/equipoiselaw07.BlockOnly", spec := "blockOnly", unfollowed := true, recurses := true, apart := false }
def BlockOnlySaid : Prop := blockOnlyRow.holds Try.pinned (OpenSpec.ofChange blockOnlySpec)

/-- ITS FALSE NEIGHBOUR: 'it returns false'. Refute it at one input. -/
def blockOnlyWrong : ChangeSpec := { name := "blockOnly", fn := fun _ => fun
  | [d1, d2, d3] => { results := [.lit (.bool false)], args := [d1, d2, d3] }
  | _ => none }
def BlockOnlyWrongFalsely : Prop := blockOnlyRow.holds Try.pinned (OpenSpec.ofChange blockOnlyWrong)

/- THE SECOND FORM. 'bulk': how many values and letters a reading holds, each counted each time it is reached (what is shared counts as often as it is met; a slice's spare places count too). A statement '..UptoSaid' is the law's where the arguments, and the package variables that the reading takes, are together of bulk at most 1048576: NARROWER than '..Said'. Prove '..Said' where nothing that the law and all that it calls make is longer than what came in: it says more and counts as full. Else prove '..UptoSaid'. A law counts once. -/
mutual
def uptoBulk {H : Type} : DataW H → Nat
  | .lit (.string bytes) => bytes.length + 1
  | .lit _ => 1
  | .nil => 1
  | .ptr d => uptoBulk d + 1
  | .slice elems spare => uptoBulkAll elems + uptoBulkAll spare + 1
  | .agg parts => uptoBulkAll parts + 1
  | .iface _ d => uptoBulk d + 1
  | .map entries => uptoBulkEntries entries + 1
  | .held _ => 1
def uptoBulkAll {H : Type} : List (DataW H) → Nat
  | [] => 0
  | d :: r => uptoBulk d + uptoBulkAll r
def uptoBulkEntries {H : Type} : List (Lit × DataW H) → Nat
  | [] => 0
  | x :: r => uptoBulkEntry x + uptoBulkEntries r
def uptoBulkEntry {H : Type} : Lit × DataW H → Nat
  | (.string bytes, d) => bytes.length + uptoBulk d + 1
  | (_, d) => uptoBulk d + 1
 end
def uptoSmall : (H : Type) → List (DataW H) → Bool := fun _ ds => decide (uptoBulkAll ds ≤ 1048576)
def OpenSpec.upto (s : _root_.Go.ChangeSpec) : _root_.Go.OpenSpec := { _root_.Go.OpenSpec.ofChange s with cond := some uptoSmall }

/-- 'equipoiselaw07.BlockDraws', WHERE WHAT IT READS IS OF BULK AT MOST 1048576: true; the input reads as it did. -/
def blockDrawsUptoRow : OpenClaim := { program := "ytjlneggfkpjnpaa", sum := "e6b570abdfc995fdb20155aa0f215215ed88a0e58893b9ba2ff37d53a6dacf51", func := "equipoise/equipoiselaw07.BlockDraws", spec := "blockDraws", unfollowed := true, recurses := true, apart := false, narrowed := true }
def BlockDrawsUptoSaid : Prop := blockDrawsUptoRow.holds Try.pinned (OpenSpec.upto blockDrawsSpec)

/-- 'equipoiselaw07.BlockWalks', WHERE WHAT IT READS IS OF BULK AT MOST 1048576: true; the input reads as it did. -/
def blockWalksUptoRow : OpenClaim := { program := "ytjlneggfkpjnpaa", sum := "e6b570abdfc995fdb20155aa0f215215ed88a0e58893b9ba2ff37d53a6dacf51", func := "equipoise/equipoiselaw07.BlockWalks", spec := "blockWalks", unfollowed := true, recurses := true, apart := false, narrowed := true }
def BlockWalksUptoSaid : Prop := blockWalksUptoRow.holds Try.pinned (OpenSpec.upto blockWalksSpec)

/-- 'equipoiselaw07.BlockEven', WHERE WHAT IT READS IS OF BULK AT MOST 1048576: true; the input reads as it did. -/
def blockEvenUptoRow : OpenClaim := { program := "ytjlneggfkpjnpaa", sum := "e6b570abdfc995fdb20155aa0f215215ed88a0e58893b9ba2ff37d53a6dacf51", func := "equipoise/equipoiselaw07.BlockEven", spec := "blockEven", unfollowed := true, recurses := true, apart := false, narrowed := true }
def BlockEvenUptoSaid : Prop := blockEvenUptoRow.holds Try.pinned (OpenSpec.upto blockEvenSpec)

/-- 'equipoiselaw07.BlockFair', WHERE WHAT IT READS IS OF BULK AT MOST 1048576: true; the input reads as it did. -/
def blockFairUptoRow : OpenClaim := { program := "ytjlneggfkpjnpaa", sum := "e6b570abdfc995fdb20155aa0f215215ed88a0e58893b9ba2ff37d53a6dacf51", func := "equipoise/equipoiselaw07.BlockFair", spec := "blockFair", unfollowed := true, recurses := true, apart := false, narrowed := true }
def BlockFairUptoSaid : Prop := blockFairUptoRow.holds Try.pinned (OpenSpec.upto blockFairSpec)

/-- 'equipoiselaw07.BlockOnly', WHERE WHAT IT READS IS OF BULK AT MOST 1048576: true; the input reads as it did. -/
def blockOnlyUptoRow : OpenClaim := { program := "ytjlneggfkpjnpaa", sum := "e6b570abdfc995fdb20155aa0f215215ed88a0e58893b9ba2ff37d53a6dacf51", func := "equipoise/equipoiselaw07.BlockOnly", spec := "blockOnly", unfollowed := true, recurses := true, apart := false, narrowed := true }
def BlockOnlyUptoSaid : Prop := blockOnlyUptoRow.holds Try.pinned (OpenSpec.upto blockOnlySpec)

end Rows
end Go.Proofs.Ytjlneggfkpjnpaa
