/-
  No cell of these rows narrows 'for every input' (looked for: loops, veiled, ifaces, maps, wideKeys, modest, calm, conditions, laid).
  DERIVED. THE GIVEN ROWS OF THIS SEAT. 7 by the template 'for every input the law returns true; each argument reads behind the call as it read before'; 0 by the template 'total and deterministic' (their statements: YtkagmbmkopdekaaTotals.lean).
  GIVEN WITH THE SEED: the statements are not yours to turn. If you find one false, say at which input.
  Laid BY PROGRAM, IN A SANDBOX (cutbox-rows.mjs): the forced cells as the released guide's own fill.sh prints them over the translation 852df7d952cd07f0… (all of the seat's roots in one cut). By AI agents, Wed Nov 11 2026. No macro, syntax, notation, axiom, sorry.
-/
import Derived.Test.YtkagmbmkopdekaaChecked
import GoSem.Claim
import GoSem.ClaimJoined
import GoSem.ClaimMapViews
import Derived.JoinedTies
import Derived.KernelRfl
namespace Go.Proofs.Ytkagmbmkopdekaa
/- THE CELL 'sum', in the pinned program and in every row, IS THE sha256 OF THE DUMP (.gsa) THAT YtkagmbmkopdekaaProg.lean LOADS. Nothing in Lean hashes anything: it is a label: what it is worth is what the hold of that sum in a sandbox is worth. -/
noncomputable def Try.pinned : Pinned := { name := "ytkagmbmkopdekaa", sum := "852df7d952cd07f0ead025c87541ea8242e29ebafffbfcd787fcd9ee2815a7e1", checked := Try.checked }
namespace Rows
def none {H : Type} : Left H := { results := [], args := [] }

/-- 'equipoiselaw05.ShareForms': WHATEVER THE INPUT: true; the input reads as it did. -/
def shareFormsSpec : ChangeSpec := { name := "shareForms", fn := fun _ => fun
  | [d] => { results := [.lit (.bool true)], args := [d] }
  | _ => none }
def shareFormsRow : OpenClaim := { program := "ytkagmbmkopdekaa", sum := "852df7d952cd07f0ead025c87541ea8242e29ebafffbfcd787fcd9ee2815a7e1", func := "equipoise/equipoiselaw05.ShareForms", spec := "shareForms", unfollowed := true, recurses := true, apart := false }
def ShareFormsSaid : Prop := shareFormsRow.holds Try.pinned (OpenSpec.ofChange shareFormsSpec)

/-- ITS FALSE NEIGHBOUR: 'it returns false'. Refute it at one input. -/
def shareFormsWrong : ChangeSpec := { name := "shareForms", fn := fun _ => fun
  | [d] => { results := [.lit (.bool false)], args := [d] }
  | _ => none }
def ShareFormsWrongFalsely : Prop := shareFormsRow.holds Try.pinned (OpenSpec.ofChange shareFormsWrong)

/-- 'equipoiselaw05.ShareAgrees': WHATEVER THE INPUT: true; the input reads as it did. -/
def shareAgreesSpec : ChangeSpec := { name := "shareAgrees", fn := fun _ => fun
  | [d1, d2, d3, d4, d5, d6] => { results := [.lit (.bool true)], args := [d1, d2, d3, d4, d5, d6] }
  | _ => none }
def shareAgreesRow : OpenClaim := { program := "ytkagmbmkopdekaa", sum := "852df7d952cd07f0ead025c87541ea8242e29ebafffbfcd787fcd9ee2815a7e1", func := "equipoise/equipoiselaw05.ShareAgrees", spec := "shareAgrees", unfollowed := true, recurses := true, apart := false }
def ShareAgreesSaid : Prop := shareAgreesRow.holds Try.pinned (OpenSpec.ofChange shareAgreesSpec)

/-- ITS FALSE NEIGHBOUR: 'it returns false'. Refute it at one input. -/
def shareAgreesWrong : ChangeSpec := { name := "shareAgrees", fn := fun _ => fun
  | [d1, d2, d3, d4, d5, d6] => { results := [.lit (.bool false)], args := [d1, d2, d3, d4, d5, d6] }
  | _ => none }
def ShareAgreesWrongFalsely : Prop := shareAgreesRow.holds Try.pinned (OpenSpec.ofChange shareAgreesWrong)

/-- 'equipoiselaw05.ShareJoins': WHATEVER THE INPUT: true; the input reads as it did. -/
def shareJoinsSpec : ChangeSpec := { name := "shareJoins", fn := fun _ => fun
  | [d1, d2] => { results := [.lit (.bool true)], args := [d1, d2] }
  | _ => none }
def shareJoinsRow : OpenClaim := { program := "ytkagmbmkopdekaa", sum := "852df7d952cd07f0ead025c87541ea8242e29ebafffbfcd787fcd9ee2815a7e1", func := "equipoise/equipoiselaw05.ShareJoins", spec := "shareJoins", unfollowed := true, recurses := true, apart := false }
def ShareJoinsSaid : Prop := shareJoinsRow.holds Try.pinned (OpenSpec.ofChange shareJoinsSpec)

/-- ITS FALSE NEIGHBOUR: 'it returns false'. Refute it at one input. -/
def shareJoinsWrong : ChangeSpec := { name := "shareJoins", fn := fun _ => fun
  | [d1, d2] => { results := [.lit (.bool false)], args := [d1, d2] }
  | _ => none }
def ShareJoinsWrongFalsely : Prop := shareJoinsRow.holds Try.pinned (OpenSpec.ofChange shareJoinsWrong)

/-- 'equipoiselaw05.ShareHides': WHATEVER THE INPUT: true; the input reads as it did. -/
def shareHidesSpec : ChangeSpec := { name := "shareHides", fn := fun _ => fun
  | [d1, d2, d3] => { results := [.lit (.bool true)], args := [d1, d2, d3] }
  | _ => none }
def shareHidesRow : OpenClaim := { program := "ytkagmbmkopdekaa", sum := "852df7d952cd07f0ead025c87541ea8242e29ebafffbfcd787fcd9ee2815a7e1", func := "equipoise/equipoiselaw05.ShareHides", spec := "shareHides", unfollowed := true, recurses := true, apart := false }
def ShareHidesSaid : Prop := shareHidesRow.holds Try.pinned (OpenSpec.ofChange shareHidesSpec)

/-- ITS FALSE NEIGHBOUR: 'it returns false'. Refute it at one input. -/
def shareHidesWrong : ChangeSpec := { name := "shareHides", fn := fun _ => fun
  | [d1, d2, d3] => { results := [.lit (.bool false)], args := [d1, d2, d3] }
  | _ => none }
def ShareHidesWrongFalsely : Prop := shareHidesRow.holds Try.pinned (OpenSpec.ofChange shareHidesWrong)

/-- 'equipoiselaw05.ShareRenews': WHATEVER THE INPUT: true; the input reads as it did. -/
def shareRenewsSpec : ChangeSpec := { name := "shareRenews", fn := fun _ => fun
  | [d1, d2, d3, d4] => { results := [.lit (.bool true)], args := [d1, d2, d3, d4] }
  | _ => none }
def shareRenewsRow : OpenClaim := { program := "ytkagmbmkopdekaa", sum := "852df7d952cd07f0ead025c87541ea8242e29ebafffbfcd787fcd9ee2815a7e1", func := "equipoise/equipoiselaw05.ShareRenews", spec := "shareRenews", unfollowed := true, recurses := true, apart := false }
def ShareRenewsSaid : Prop := shareRenewsRow.holds Try.pinned (OpenSpec.ofChange shareRenewsSpec)

/-- ITS FALSE NEIGHBOUR: 'it returns false'. Refute it at one input. -/
def shareRenewsWrong : ChangeSpec := { name := "shareRenews", fn := fun _ => fun
  | [d1, d2, d3, d4] => { results := [.lit (.bool false)], args := [d1, d2, d3, d4] }
  | _ => none }
def ShareRenewsWrongFalsely : Prop := shareRenewsRow.holds Try.pinned (OpenSpec.ofChange shareRenewsWrong)

/-- 'equipoiselaw05.ShareForged': WHATEVER THE INPUT: true; the input reads as it did. -/
def shareForgedSpec : ChangeSpec := { name := "shareForged", fn := fun _ => fun
  | [d1, d2, d3, d4, d5] => { results := [.lit (.bool true)], args := [d1, d2, d3, d4, d5] }
  | _ => none }
def shareForgedRow : OpenClaim := { program := "ytkagmbmkopdekaa", sum := "852df7d952cd07f0ead025c87541ea8242e29ebafffbfcd787fcd9ee2815a7e1", func := "equipoise/equipoiselaw05.ShareForged", spec := "shareForged", unfollowed := true, recurses := true, apart := false }
def ShareForgedSaid : Prop := shareForgedRow.holds Try.pinned (OpenSpec.ofChange shareForgedSpec)

/-- ITS FALSE NEIGHBOUR: 'it returns false'. Refute it at one input. -/
def shareForgedWrong : ChangeSpec := { name := "shareForged", fn := fun _ => fun
  | [d1, d2, d3, d4, d5] => { results := [.lit (.bool false)], args := [d1, d2, d3, d4, d5] }
  | _ => none }
def ShareForgedWrongFalsely : Prop := shareForgedRow.holds Try.pinned (OpenSpec.ofChange shareForgedWrong)

/-- 'equipoiselaw05.ShareAdds': WHATEVER THE INPUT: true; the input reads as it did. -/
def shareAddsSpec : ChangeSpec := { name := "shareAdds", fn := fun _ => fun
  | [d1, d2] => { results := [.lit (.bool true)], args := [d1, d2] }
  | _ => none }
def shareAddsRow : OpenClaim := { program := "ytkagmbmkopdekaa", sum := "852df7d952cd07f0ead025c87541ea8242e29ebafffbfcd787fcd9ee2815a7e1", func := "equipoise/equipoiselaw05.ShareAdds", spec := "shareAdds", unfollowed := true, recurses := true, apart := false }
def ShareAddsSaid : Prop := shareAddsRow.holds Try.pinned (OpenSpec.ofChange shareAddsSpec)

/-- ITS FALSE NEIGHBOUR: 'it returns false'. Refute it at one input. -/
def shareAddsWrong : ChangeSpec := { name := "shareAdds", fn := fun _ => fun
  | [d1, d2] => { results := [.lit (.bool false)], args := [d1, d2] }
  | _ => none }
def ShareAddsWrongFalsely : Prop := shareAddsRow.holds Try.pinned (OpenSpec.ofChange shareAddsWrong)

/- THE SECOND FORM. 'bulk': how many values and letters a reading holds, each counted each time it is reached (what is shared counts as often as it is met; a slice's spare places count too). A statement '..UptoSaid' is the law's where the arguments, and the package variables that the reading takes, are together of bulk at most 1048576: NARROWER than '..Said'. Prove '..Said' where nothing that the law and all that it calls make is longer than what came in: it says more and counts as full. Else prove '..UptoSaid'. A law counts once. -/
mutual
def uptoBulk {H : Type} : DataW H → Nat
  | .lit (.string bytes) => bytes.length + 1
  | .lit _ => 1
  | .nil => 1
  | .ptr d => uptoBulk d + 1
  | .slice elems spare => uptoBulkAll elems + uptoBulkAll spare + 1
  | .agg parts => uptoBulkAll parts + 1
  | .iface _ d => uptoBulk d + 1
  | .map entries => uptoBulkEntries entries + 1
  | .held _ => 1
def uptoBulkAll {H : Type} : List (DataW H) → Nat
  | [] => 0
  | d :: r => uptoBulk d + uptoBulkAll r
def uptoBulkEntries {H : Type} : List (Lit × DataW H) → Nat
  | [] => 0
  | x :: r => uptoBulkEntry x + uptoBulkEntries r
def uptoBulkEntry {H : Type} : Lit × DataW H → Nat
  | (.string bytes, d) => bytes.length + uptoBulk d + 1
  | (_, d) => uptoBulk d + 1
 end
def uptoSmall : (H : Type) → List (DataW H) → Bool := fun _ ds => decide (uptoBulkAll ds ≤ 1048576)
def OpenSpec.upto (s : _root_.Go.ChangeSpec) : _root_.Go.OpenSpec := { _root_.Go.OpenSpec.ofChange s with cond := some uptoSmall }

/-- 'equipoiselaw05.ShareForms', WHERE WHAT IT READS IS OF BULK AT MOST 1048576: true; the input reads as it did. -/
def shareFormsUptoRow : OpenClaim := { program := "ytkagmbmkopdekaa", sum := "852df7d952cd07f0ead025c87541ea8242e29ebafffbfcd787fcd9ee2815a7e1", func := "equipoise/equipoiselaw05.ShareForms", spec := "shareForms", unfollowed := true, recurses := true, apart := false, narrowed := true }
def ShareFormsUptoSaid : Prop := shareFormsUptoRow.holds Try.pinned (OpenSpec.upto shareFormsSpec)

/-- 'equipoiselaw05.ShareAgrees', WHERE WHAT IT READS IS OF BULK AT MOST 1048576: true; the input reads as it did. -/
def shareAgreesUptoRow : OpenClaim := { program := "ytkagmbmkopdekaa", sum := "852df7d952cd07f0ead025c87541ea8242e29ebafffbfcd787fcd9ee2815a7e1", func := "equipoise/equipoiselaw05.ShareAgrees", spec := "shareAgrees", unfollowed := true, recurses := true, apart := false, narrowed := true }
def ShareAgreesUptoSaid : Prop := shareAgreesUptoRow.holds Try.pinned (OpenSpec.upto shareAgreesSpec)

/-- 'equipoiselaw05.ShareJoins', WHERE WHAT IT READS IS OF BULK AT MOST 1048576: true; the input reads as it did. -/
def shareJoinsUptoRow : OpenClaim := { program := "ytkagmbmkopdekaa", sum := "852df7d952cd07f0ead025c87541ea8242e29ebafffbfcd787fcd9ee2815a7e1", func := "equipoise/equipoiselaw05.ShareJoins", spec := "shareJoins", unfollowed := true, recurses := true, apart := false, narrowed := true }
def ShareJoinsUptoSaid : Prop := shareJoinsUptoRow.holds Try.pinned (OpenSpec.upto shareJoinsSpec)

/-- 'equipoiselaw05.ShareHides', WHERE WHAT IT READS IS OF BULK AT MOST 1048576: true; the input reads as it did. -/
def shareHidesUptoRow : OpenClaim := { program := "ytkagmbmkopdekaa", sum := "852df7d952cd07f0ead025c87541ea8242e29ebafffbfcd787fcd9ee2815a7e1", func := "equipoise/equipoiselaw05.ShareHides", spec := "shareHides", unfollowed := true, recurses := true, apart := false, narrowed := true }
def ShareHidesUptoSaid : Prop := shareHidesUptoRow.holds Try.pinned (OpenSpec.upto shareHidesSpec)

/-- 'equipoiselaw05.ShareRenews', WHERE WHAT IT READS IS OF BULK AT MOST 1048576: true; the input reads as it did. -/
def shareRenewsUptoRow : OpenClaim := { program := "ytkagmbmkopdekaa", sum := "852df7d952cd07f0ead025c87541ea8242e29ebafffbfcd787fcd9ee2815a7e1", func := "equipoise/equipoiselaw05.ShareRenews", spec := "shareRenews", unfollowed := true, recurses := true, apart := false, narrowed := true }
def ShareRenewsUptoSaid : Prop := shareRenewsUptoRow.holds Try.pinned (OpenSpec.upto shareRenewsSpec)

/-- 'equipoiselaw05.ShareForged', WHERE WHAT IT READS IS OF BULK AT MOST 1048576: true; the input reads as it did. -/
def shareForgedUptoRow : OpenClaim := { program := "ytkagmbmkopdekaa", sum := "852df7d952cd07f0ead025c87541ea8242e29ebafffbfcd787fcd9ee2815a7e1", func := "equipoise/equipoiselaw05.ShareForged", spec := "shareForged", unfollowed := true, recurses := true, apart := false, narrowed := true }
def ShareForgedUptoSaid : Prop := shareForgedUptoRow.holds Try.pinned (OpenSpec.upto shareForgedSpec)

/-- 'equipoiselaw05.ShareAdds', WHERE WHAT IT READS IS OF BULK AT MOST 1048576: true; the input reads as it did. -/
def shareAddsUptoRow : OpenClaim := { program := "ytkagmbmkopdekaa", sum := "852df7d952cd07f0ead025c87541ea8242e29ebafffbfcd787fcd9ee2815a7e1", func := "equipoise/equipoiselaw05.ShareAdds", spec := "shareAdds", unfollowed := true, recurses := true, apart := false, narrowed := true }
def ShareAddsUptoSaid : Prop := shareAddsUptoRow.holds Try.pinned (OpenSpec.upto shareAddsSpec)

end Rows
end Go.Proofs.Ytkagmbmkopdekaa
