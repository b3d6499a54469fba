/-
  No cell of these rows narrows 'for every input' (looked for: loops, veiled, ifaces, maps, wideKeys, modest, calm, conditions, laid).
  DERIVED. THE GIVEN ROWS OF THIS SEAT. 6 by the template 'for every input the law returns true; each argument reads behind the call as it read before'; 0 by the template 'total and deterministic' (their statements: YtafdjohgoopcmaaTotals.lean).
  GIVEN WITH THE SEED: the statements are not yours to turn. If you find one false, say at which input.
  Laid BY PROGRAM, IN A SANDBOX (cutbox-rows.mjs): the forced cells as the released guide's own fill.sh prints them over the translation 298186bd54f59ef3… (all of the seat's roots in one cut). By AI agents, Wed Nov 11 2026. No macro, syntax, notation, axiom, sorry.
-/
import Derived.Test.YtafdjohgoopcmaaChecked
import GoSem.Claim
import GoSem.ClaimJoined
import GoSem.ClaimMapViews
import Derived.JoinedTies
import Derived.KernelRfl
namespace Go.Proofs.Ytafdjohgoopcmaa
/- THE CELL 'sum', in the pinned program and in every row, IS THE sha256 OF THE DUMP (.gsa) THAT YtafdjohgoopcmaaProg.lean LOADS. Nothing in Lean hashes anything: it is a label: what it is worth is what the hold of that sum in a sandbox is worth. -/
noncomputable def Try.pinned : Pinned := { name := "ytafdjohgoopcmaa", sum := "298186bd54f59ef3314bdf7a263df11a449e649a01c79991d9977775d3c425e0", checked := Try.checked }
namespace Rows
def none {H : Type} : Left H := { results := [], args := [] }

/-- 'equipoiselaw06.DrawNumbers': WHATEVER THE INPUT: true; the input reads as it did. -/
def drawNumbersSpec : ChangeSpec := { name := "drawNumbers", fn := fun _ => fun
  | [d1, d2, d3] => { results := [.lit (.bool true)], args := [d1, d2, d3] }
  | _ => none }
def drawNumbersRow : OpenClaim := { program := "ytafdjohgoopcmaa", sum := "298186bd54f59ef3314bdf7a263df11a449e649a01c79991d9977775d3c425e0", func := "equipoise/equipoiselaw06.DrawNumbers", spec := "drawNumbers", unfollowed := true, recurses := true, apart := false }
def DrawNumbersSaid : Prop := drawNumbersRow.holds Try.pinned (OpenSpec.ofChange drawNumbersSpec)

/-- ITS FALSE NEIGHBOUR: 'it returns false'. Refute it at one input. -/
def drawNumbersWrong : ChangeSpec := { name := "drawNumbers", fn := fun _ => fun
  | [d1, d2, d3] => { results := [.lit (.bool false)], args := [d1, d2, d3] }
  | _ => none }
def DrawNumbersWrongFalsely : Prop := drawNumbersRow.holds Try.pinned (OpenSpec.ofChange drawNumbersWrong)

/-- 'equipoiselaw06.DrawPicks': WHATEVER THE INPUT: true; the input reads as it did. -/
def drawPicksSpec : ChangeSpec := { name := "drawPicks", fn := fun _ => fun
  | [d1, d2, d3] => { results := [.lit (.bool true)], args := [d1, d2, d3] }
  | _ => none }
def drawPicksRow : OpenClaim := { program := "ytafdjohgoopcmaa", sum := "298186bd54f59ef3314bdf7a263df11a449e649a01c79991d9977775d3c425e0", func := "equipoise/equipoiselaw06.DrawPicks", spec := "drawPicks", unfollowed := true, recurses := true, apart := false }
def DrawPicksSaid : Prop := drawPicksRow.holds Try.pinned (OpenSpec.ofChange drawPicksSpec)

/-- ITS FALSE NEIGHBOUR: 'it returns false'. Refute it at one input. -/
def drawPicksWrong : ChangeSpec := { name := "drawPicks", fn := fun _ => fun
  | [d1, d2, d3] => { results := [.lit (.bool false)], args := [d1, d2, d3] }
  | _ => none }
def DrawPicksWrongFalsely : Prop := drawPicksRow.holds Try.pinned (OpenSpec.ofChange drawPicksWrong)

/-- 'equipoiselaw06.DrawJoins': WHATEVER THE INPUT: true; the input reads as it did. -/
def drawJoinsSpec : ChangeSpec := { name := "drawJoins", fn := fun _ => fun
  | [d] => { results := [.lit (.bool true)], args := [d] }
  | _ => none }
def drawJoinsRow : OpenClaim := { program := "ytafdjohgoopcmaa", sum := "298186bd54f59ef3314bdf7a263df11a449e649a01c79991d9977775d3c425e0", func := "equipoise/equipoiselaw06.DrawJoins", spec := "drawJoins", unfollowed := true, recurses := true, apart := false }
def DrawJoinsSaid : Prop := drawJoinsRow.holds Try.pinned (OpenSpec.ofChange drawJoinsSpec)

/-- ITS FALSE NEIGHBOUR: 'it returns false'. Refute it at one input. -/
def drawJoinsWrong : ChangeSpec := { name := "drawJoins", fn := fun _ => fun
  | [d] => { results := [.lit (.bool false)], args := [d] }
  | _ => none }
def DrawJoinsWrongFalsely : Prop := drawJoinsRow.holds Try.pinned (OpenSpec.ofChange drawJoinsWrong)

/-- 'equipoiselaw06.DrawWithin': WHATEVER THE INPUT: true; the input reads as it did. -/
def drawWithinSpec : ChangeSpec := { name := "drawWithin", fn := fun _ => fun
  | [d1, d2, d3] => { results := [.lit (.bool true)], args := [d1, d2, d3] }
  | _ => none }
def drawWithinRow : OpenClaim := { program := "ytafdjohgoopcmaa", sum := "298186bd54f59ef3314bdf7a263df11a449e649a01c79991d9977775d3c425e0", func := "equipoise/equipoiselaw06.DrawWithin", spec := "drawWithin", unfollowed := true, recurses := true, apart := false }
def DrawWithinSaid : Prop := drawWithinRow.holds Try.pinned (OpenSpec.ofChange drawWithinSpec)

/-- ITS FALSE NEIGHBOUR: 'it returns false'. Refute it at one input. -/
def drawWithinWrong : ChangeSpec := { name := "drawWithin", fn := fun _ => fun
  | [d1, d2, d3] => { results := [.lit (.bool false)], args := [d1, d2, d3] }
  | _ => none }
def DrawWithinWrongFalsely : Prop := drawWithinRow.holds Try.pinned (OpenSpec.ofChange drawWithinWrong)

/-- 'equipoiselaw06.DrawShuffles': WHATEVER THE INPUT: true; the input reads as it did. -/
def drawShufflesSpec : ChangeSpec := { name := "drawShuffles", fn := fun _ => fun
  | [d1, d2] => { results := [.lit (.bool true)], args := [d1, d2] }
  | _ => none }
def drawShufflesRow : OpenClaim := { program := "ytafdjohgoopcmaa", sum := "298186bd54f59ef3314bdf7a263df11a449e649a01c79991d9977775d3c425e0", func := "equipoise/equipoiselaw06.DrawShuffles", spec := "drawShuffles", unfollowed := true, recurses := true, apart := false }
def DrawShufflesSaid : Prop := drawShufflesRow.holds Try.pinned (OpenSpec.ofChange drawShufflesSpec)

/-- ITS FALSE NEIGHBOUR: 'it returns false'. Refute it at one input. -/
def drawShufflesWrong : ChangeSpec := { name := "drawShuffles", fn := fun _ => fun
  | [d1, d2] => { results := [.lit (.bool false)], args := [d1, d2] }
  | _ => none }
def DrawShufflesWrongFalsely : Prop := drawShufflesRow.holds Try.pinned (OpenSpec.ofChange drawShufflesWrong)

/-- 'equipoiselaw06.DrawMerges': WHATEVER THE INPUT: true; the input reads as it did. -/
def drawMergesSpec : ChangeSpec := { name := "drawMerges", fn := fun _ => fun
  | [d1, d2, d3, d4] => { results := [.lit (.bool true)], args := [d1, d2, d3, d4] }
  | _ => none }
def drawMergesRow : OpenClaim := { program := "ytafdjohgoopcmaa", sum := "298186bd54f59ef3314bdf7a263df11a449e649a01c79991d9977775d3c425e0", func := "equipoise/equipoiselaw06.DrawMerges", spec := "drawMerges", unfollowed := true, recurses := true, apart := false }
def DrawMergesSaid : Prop := drawMergesRow.holds Try.pinned (OpenSpec.ofChange drawMergesSpec)

/-- ITS FALSE NEIGHBOUR: 'it returns false'. Refute it at one input. -/
def drawMergesWrong : ChangeSpec := { name := "drawMerges", fn := fun _ => fun
  | [d1, d2, d3, d4] => { results := [.lit (.bool false)], args := [d1, d2, d3, d4] }
  | _ => none }
def DrawMergesWrongFalsely : Prop := drawMergesRow.holds Try.pinned (OpenSpec.ofChange drawMergesWrong)

/- THE SECOND FORM. 'bulk': how many values and letters a reading holds, each counted each time it is reached (what is shared counts as often as it is met; a slice's spare places count too). A statement '..UptoSaid' is the law's where the arguments, and the package variables that the reading takes, are together of bulk at most 1048576: NARROWER than '..Said'. Prove '..Said' where nothing that the law and all that it calls make is longer than what came in: it says more and counts as full. Else prove '..UptoSaid'. A law counts once. -/
mutual
def uptoBulk {H : Type} : DataW H → Nat
  | .lit (.string bytes) => bytes.length + 1
  | .lit _ => 1
  | .nil => 1
  | .ptr d => uptoBulk d + 1
  | .slice elems spare => uptoBulkAll elems + uptoBulkAll spare + 1
  | .agg parts => uptoBulkAll parts + 1
  | .iface _ d => uptoBulk d + 1
  | .map entries => uptoBulkEntries entries + 1
  | .held _ => 1
def uptoBulkAll {H : Type} : List (DataW H) → Nat
  | [] => 0
  | d :: r => uptoBulk d + uptoBulkAll r
def uptoBulkEntries {H : Type} : List (Lit × DataW H) → Nat
  | [] => 0
  | x :: r => uptoBulkEntry x + uptoBulkEntries r
def uptoBulkEntry {H : Type} : Lit × DataW H → Nat
  | (.string bytes, d) => bytes.length + uptoBulk d + 1
  | (_, d) => uptoBulk d + 1
 end
def uptoSmall : (H : Type) → List (DataW H) → Bool := fun _ ds => decide (uptoBulkAll ds ≤ 1048576)
def OpenSpec.upto (s : _root_.Go.ChangeSpec) : _root_.Go.OpenSpec := { _root_.Go.OpenSpec.ofChange s with cond := some uptoSmall }

/-- 'equipoiselaw06.DrawNumbers', WHERE WHAT IT READS IS OF BULK AT MOST 1048576: true; the input reads as it did. -/
def drawNumbersUptoRow : OpenClaim := { program := "ytafdjohgoopcmaa", sum := "298186bd54f59ef3314bdf7a263df11a449e649a01c79991d9977775d3c425e0", func := "equipoise/equipoiselaw06.DrawNumbers", spec := "drawNumbers", unfollowed := true, recurses := true, apart := false, narrowed := true }
def DrawNumbersUptoSaid : Prop := drawNumbersUptoRow.holds Try.pinned (OpenSpec.upto drawNumbersSpec)

/-- 'equipoiselaw06.DrawPicks', WHERE WHAT IT READS IS OF BULK AT MOST 1048576: true; the input reads as it did. -/
def drawPicksUptoRow : OpenClaim := { program := "ytafdjohgoopcmaa", sum := "298186bd54f59ef3314bdf7a263df11a449e649a01c79991d9977775d3c425e0", func := "equipoise/equipoiselaw06.DrawPicks", spec := "drawPicks", unfollowed := true, recurses := true, apart := false, narrowed := true }
def DrawPicksUptoSaid : Prop := drawPicksUptoRow.holds Try.pinned (OpenSpec.upto drawPicksSpec)

/-- 'equipoiselaw06.DrawJoins', WHERE WHAT IT READS IS OF BULK AT MOST 1048576: true; the input reads as it did. -/
def drawJoinsUptoRow : OpenClaim := { program := "ytafdjohgoopcmaa", sum := "298186bd54f59ef3314bdf7a263df11a449e649a01c79991d9977775d3c425e0", func := "equipoise/equipoiselaw06.DrawJoins", spec := "drawJoins", unfollowed := true, recurses := true, apart := false, narrowed := true }
def DrawJoinsUptoSaid : Prop := drawJoinsUptoRow.holds Try.pinned (OpenSpec.upto drawJoinsSpec)

/-- 'equipoiselaw06.DrawWithin', WHERE WHAT IT READS IS OF BULK AT MOST 1048576: true; the input reads as it did. -/
def drawWithinUptoRow : OpenClaim := { program := "ytafdjohgoopcmaa", sum := "298186bd54f59ef3314bdf7a263df11a449e649a01c79991d9977775d3c425e0", func := "equipoise/equipoiselaw06.DrawWithin", spec := "drawWithin", unfollowed := true, recurses := true, apart := false, narrowed := true }
def DrawWithinUptoSaid : Prop := drawWithinUptoRow.holds Try.pinned (OpenSpec.upto drawWithinSpec)

/-- 'equipoiselaw06.DrawShuffles', WHERE WHAT IT READS IS OF BULK AT MOST 1048576: true; the input reads as it did. -/
def drawShufflesUptoRow : OpenClaim := { program := "ytafdjohgoopcmaa", sum := "298186bd54f59ef3314bdf7a263df11a449e649a01c79991d9977775d3c425e0", func := "equipoise/equipoiselaw06.DrawShuffles", spec := "drawShuffles", unfollowed := true, recurses := true, apart := false, narrowed := true }
def DrawShufflesUptoSaid : Prop := drawShufflesUptoRow.holds Try.pinned (OpenSpec.upto drawShufflesSpec)

/-- 'equipoiselaw06.DrawMerges', WHERE WHAT IT READS IS OF BULK AT MOST 1048576: true; the input reads as it did. -/
def drawMergesUptoRow : OpenClaim := { program := "ytafdjohgoopcmaa", sum := "298186bd54f59ef3314bdf7a263df11a449e649a01c79991d9977775d3c425e0", func := "equipoise/equipoiselaw06.DrawMerges", spec := "drawMerges", unfollowed := true, recurses := true, apart := false, narrowed := true }
def DrawMergesUptoSaid : Prop := drawMergesUptoRow.holds Try.pinned (OpenSpec.upto drawMergesSpec)

end Rows
end Go.Proofs.Ytafdjohgoopcmaa
