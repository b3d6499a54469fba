/-
  No cell of these rows narrows 'for every input' (looked for: loops, veiled, ifaces, maps, wideKeys, modest, calm, conditions, laid).
  DERIVED. THE GIVEN ROWS OF THIS SEAT. 5 by the template 'for every input the law returns true; each argument reads behind the call as it read before'; 0 by the template 'total and deterministic' (their statements: YtmpopbkhmkkhgaaTotals.lean).
  GIVEN WITH THE SEED: the statements are not yours to turn. If you find one false, say at which input.
  Laid BY PROGRAM, IN A SANDBOX (cutbox-rows.mjs): the forced cells as the released guide's own fill.sh prints them over the translation 44c7f3a1b249ceeb… (all of the seat's roots in one cut). By AI agents, Wed Nov 11 2026. No macro, syntax, notation, axiom, sorry.
-/
import Derived.Test.YtmpopbkhmkkhgaaChecked
import GoSem.Claim
import GoSem.ClaimJoined
import GoSem.ClaimMapViews
import Derived.JoinedTies
import Derived.KernelRfl
namespace Go.Proofs.Ytmpopbkhmkkhgaa
/- THE CELL 'sum', in the pinned program and in every row, IS THE sha256 OF THE DUMP (.gsa) THAT YtmpopbkhmkkhgaaProg.lean LOADS. Nothing in Lean hashes anything: it is a label: what it is worth is what the hold of that sum in a sandbox is worth. -/
noncomputable def Try.pinned : Pinned := { name := "ytmpopbkhmkkhgaa", sum := "44c7f3a1b249ceeb44599577a93129ccb6d6bd377870e1531014d0f03e35aacf", checked := Try.checked }
namespace Rows
def none {H : Type} : Left H := { results := [], args := [] }

/-- 'equipoiselaw08.UrnForms': WHATEVER THE INPUT: true; the input reads as it did. -/
def urnFormsSpec : ChangeSpec := { name := "urnForms", fn := fun _ => fun
  | [d1, d2, d3, d4, d5, d6] => { results := [.lit (.bool true)], args := [d1, d2, d3, d4, d5, d6] }
  | _ => none }
def urnFormsRow : OpenClaim := { program := "ytmpopbkhmkkhgaa", sum := "44c7f3a1b249ceeb44599577a93129ccb6d6bd377870e1531014d0f03e35aacf", func := "equipoise/equipoiselaw08.UrnForms", spec := "urnForms", unfollowed := true, recurses := true, apart := false }
def UrnFormsSaid : Prop := urnFormsRow.holds Try.pinned (OpenSpec.ofChange urnFormsSpec)

/-- ITS FALSE NEIGHBOUR: 'it returns false'. Refute it at one input. -/
def urnFormsWrong : ChangeSpec := { name := "urnForms", fn := fun _ => fun
  | [d1, d2, d3, d4, d5, d6] => { results := [.lit (.bool false)], args := [d1, d2, d3, d4, d5, d6] }
  | _ => none }
def UrnFormsWrongFalsely : Prop := urnFormsRow.holds Try.pinned (OpenSpec.ofChange urnFormsWrong)

/-- 'equipoiselaw08.UrnGrows': WHATEVER THE INPUT: true; the input reads as it did. -/
def urnGrowsSpec : ChangeSpec := { name := "urnGrows", fn := fun _ => fun
  | [d1, d2] => { results := [.lit (.bool true)], args := [d1, d2] }
  | _ => none }
def urnGrowsRow : OpenClaim := { program := "ytmpopbkhmkkhgaa", sum := "44c7f3a1b249ceeb44599577a93129ccb6d6bd377870e1531014d0f03e35aacf", func := "equipoise/equipoiselaw08.UrnGrows", spec := "urnGrows", unfollowed := true, recurses := true, apart := false }
def UrnGrowsSaid : Prop := urnGrowsRow.holds Try.pinned (OpenSpec.ofChange urnGrowsSpec)

/-- ITS FALSE NEIGHBOUR: 'it returns false'. Refute it at one input. -/
def urnGrowsWrong : ChangeSpec := { name := "urnGrows", fn := fun _ => fun
  | [d1, d2] => { results := [.lit (.bool false)], args := [d1, d2] }
  | _ => none }
def UrnGrowsWrongFalsely : Prop := urnGrowsRow.holds Try.pinned (OpenSpec.ofChange urnGrowsWrong)

/-- 'equipoiselaw08.UrnWeights': WHATEVER THE INPUT: true; the input reads as it did. -/
def urnWeightsSpec : ChangeSpec := { name := "urnWeights", fn := fun _ => fun
  | [d1, d2] => { results := [.lit (.bool true)], args := [d1, d2] }
  | _ => none }
def urnWeightsRow : OpenClaim := { program := "ytmpopbkhmkkhgaa", sum := "44c7f3a1b249ceeb44599577a93129ccb6d6bd377870e1531014d0f03e35aacf", func := "equipoise/equipoiselaw08.UrnWeights", spec := "urnWeights", unfollowed := true, recurses := true, apart := false }
def UrnWeightsSaid : Prop := urnWeightsRow.holds Try.pinned (OpenSpec.ofChange urnWeightsSpec)

/-- ITS FALSE NEIGHBOUR: 'it returns false'. Refute it at one input. -/
def urnWeightsWrong : ChangeSpec := { name := "urnWeights", fn := fun _ => fun
  | [d1, d2] => { results := [.lit (.bool false)], args := [d1, d2] }
  | _ => none }
def UrnWeightsWrongFalsely : Prop := urnWeightsRow.holds Try.pinned (OpenSpec.ofChange urnWeightsWrong)

/-- 'equipoiselaw08.UrnCounts': WHATEVER THE INPUT: true; the input reads as it did. -/
def urnCountsSpec : ChangeSpec := { name := "urnCounts", fn := fun _ => fun
  | [d1, d2] => { results := [.lit (.bool true)], args := [d1, d2] }
  | _ => none }
def urnCountsRow : OpenClaim := { program := "ytmpopbkhmkkhgaa", sum := "44c7f3a1b249ceeb44599577a93129ccb6d6bd377870e1531014d0f03e35aacf", func := "equipoise/equipoiselaw08.UrnCounts", spec := "urnCounts", unfollowed := true, recurses := true, apart := false }
def UrnCountsSaid : Prop := urnCountsRow.holds Try.pinned (OpenSpec.ofChange urnCountsSpec)

/-- ITS FALSE NEIGHBOUR: 'it returns false'. Refute it at one input. -/
def urnCountsWrong : ChangeSpec := { name := "urnCounts", fn := fun _ => fun
  | [d1, d2] => { results := [.lit (.bool false)], args := [d1, d2] }
  | _ => none }
def UrnCountsWrongFalsely : Prop := urnCountsRow.holds Try.pinned (OpenSpec.ofChange urnCountsWrong)

/-- 'equipoiselaw08.UrnStays': WHATEVER THE INPUT: true; the input reads as it did. -/
def urnStaysSpec : ChangeSpec := { name := "urnStays", fn := fun _ => fun
  | [d1, d2, d3] => { results := [.lit (.bool true)], args := [d1, d2, d3] }
  | _ => none }
def urnStaysRow : OpenClaim := { program := "ytmpopbkhmkkhgaa", sum := "44c7f3a1b249ceeb44599577a93129ccb6d6bd377870e1531014d0f03e35aacf", func := "equipoise/equipoiselaw08.UrnStays", spec := "urnStays", unfollowed := true, recurses := true, apart := false }
def UrnStaysSaid : Prop := urnStaysRow.holds Try.pinned (OpenSpec.ofChange urnStaysSpec)

/-- ITS FALSE NEIGHBOUR: 'it returns false'. Refute it at one input. -/
def urnStaysWrong : ChangeSpec := { name := "urnStays", fn := fun _ => fun
  | [d1, d2, d3] => { results := [.lit (.bool false)], args := [d1, d2, d3] }
  | _ => none }
def UrnStaysWrongFalsely : Prop := urnStaysRow.holds Try.pinned (OpenSpec.ofChange urnStaysWrong)

/- THE SECOND FORM. 'bulk': how many values and letters a reading holds, each counted each time it is reached (what is shared counts as often as it is met; a slice's spare places count too). A statement '..UptoSaid' is the law's where the arguments, and the package variables that the reading takes, are together of bulk at most 1048576: NARROWER than '..Said'. Prove '..Said' where nothing that the law and all that it calls make is longer than what came in: it says more and counts as full. Else prove '..UptoSaid'. A law counts once. -/
mutual
def uptoBulk {H : Type} : DataW H → Nat
  | .lit (.string bytes) => bytes.length + 1
  | .lit _ => 1
  | .nil => 1
  | .ptr d => uptoBulk d + 1
  | .slice elems spare => uptoBulkAll elems + uptoBulkAll spare + 1
  | .agg parts => uptoBulkAll parts + 1
  | .iface _ d => uptoBulk d + 1
  | .map entries => uptoBulkEntries entries + 1
  | .held _ => 1
def uptoBulkAll {H : Type} : List (DataW H) → Nat
  | [] => 0
  | d :: r => uptoBulk d + uptoBulkAll r
def uptoBulkEntries {H : Type} : List (Lit × DataW H) → Nat
  | [] => 0
  | x :: r => uptoBulkEntry x + uptoBulkEntries r
def uptoBulkEntry {H : Type} : Lit × DataW H → Nat
  | (.string bytes, d) => bytes.length + uptoBulk d + 1
  | (_, d) => uptoBulk d + 1
 end
def uptoSmall : (H : Type) → List (DataW H) → Bool := fun _ ds => decide (uptoBulkAll ds ≤ 1048576)
def OpenSpec.upto (s : _root_.Go.ChangeSpec) : _root_.Go.OpenSpec := { _root_.Go.OpenSpec.ofChange s with cond := some uptoSmall }

/-- 'equipoiselaw08.UrnForms', WHERE WHAT IT READS IS OF BULK AT MOST 1048576: true; the input reads as it did. -/
def urnFormsUptoRow : OpenClaim := { program := "ytmpopbkhmkkhgaa", sum := "44c7f3a1b249ceeb44599577a93129ccb6d6bd377870e1531014d0f03e35aacf", func := "equipoise/equipoiselaw08.UrnForms", spec := "urnForms", unfollowed := true, recurses := true, apart := false, narrowed := true }
def UrnFormsUptoSaid : Prop := urnFormsUptoRow.holds Try.pinned (OpenSpec.upto urnFormsSpec)

/-- 'equipoiselaw08.UrnGrows', WHERE WHAT IT READS IS OF BULK AT MOST 1048576: true; the input reads as it did. -/
def urnGrowsUptoRow : OpenClaim := { program := "ytmpopbkhmkkhgaa", sum := "44c7f3a1b249ceeb44599577a93129ccb6d6bd377870e1531014d0f03e35aacf", func := "equipoise/equipoiselaw08.UrnGrows", spec := "urnGrows", unfollowed := true, recurses := true, apart := false, narrowed := true }
def UrnGrowsUptoSaid : Prop := urnGrowsUptoRow.holds Try.pinned (OpenSpec.upto urnGrowsSpec)

/-- 'equipoiselaw08.UrnWeights', WHERE WHAT IT READS IS OF BULK AT MOST 1048576: true; the input reads as it did. -/
def urnWeightsUptoRow : OpenClaim := { program := "ytmpopbkhmkkhgaa", sum := "44c7f3a1b249ceeb44599577a93129ccb6d6bd377870e1531014d0f03e35aacf", func := "equipoise/equipoiselaw08.UrnWeights", spec := "urnWeights", unfollowed := true, recurses := true, apart := false, narrowed := true }
def UrnWeightsUptoSaid : Prop := urnWeightsUptoRow.holds Try.pinned (OpenSpec.upto urnWeightsSpec)

/-- 'equipoiselaw08.UrnCounts', WHERE WHAT IT READS IS OF BULK AT MOST 1048576: true; the input reads as it did. -/
def urnCountsUptoRow : OpenClaim := { program := "ytmpopbkhmkkhgaa", sum := "44c7f3a1b249ceeb44599577a93129ccb6d6bd377870e1531014d0f03e35aacf", func := "equipoise/equipoiselaw08.UrnCounts", spec := "urnCounts", unfollowed := true, recurses := true, apart := false, narrowed := true }
def UrnCountsUptoSaid : Prop := urnCountsUptoRow.holds Try.pinned (OpenSpec.upto urnCountsSpec)

/-- 'equipoiselaw08.UrnStays', WHERE WHAT IT READS IS OF BULK AT MOST 1048576: true; the input reads as it did. -/
def urnStaysUptoRow : OpenClaim := { program := "ytmpopbkhmkkhgaa", sum := "44c7f3a1b249ceeb44599577a93129ccb6d6bd377870e1531014d0f03e35aacf", func := "equipoise/equipoiselaw08.UrnStays", spec := "urnStays", unfollowed := true, recurses := true, apart := false, narrowed := true }
def UrnStaysUptoSaid : Prop := urnStaysUptoRow.holds Try.pinned (OpenSpec.upto urnStaysSpec)

end Rows
end Go.Proofs.Ytmpopbkhmkkhgaa
