/-
  No cell of these rows narrows 'for every input' (looked for: loops, veiled, ifaces, maps, wideKeys, modest, calm, conditions, laid).
  DERIVED. THE GIVEN ROWS OF THIS SEAT. 6 by the template 'for every input the law returns true; each argument reads behind the call as it read before'; 0 by the template 'total and deterministic' (their statements: YtcpgoaombabfjaaTotals.lean).
  GIVEN WITH THE SEED: the statements are not yours to turn. If you find one false, say at which input.
  Laid BY PROGRAM, IN A SANDBOX (cutbox-rows.mjs): the forced cells as the released guide's own fill.sh prints them over the translation 4bb2f5f3c9900968… (all of the seat's roots in one cut). By AI agents, Wed Nov 11 2026. No macro, syntax, notation, axiom, sorry.
-/
import Derived.Test.YtcpgoaombabfjaaChecked
import GoSem.Claim
import GoSem.ClaimJoined
import GoSem.ClaimMapViews
import Derived.JoinedTies
import Derived.KernelRfl
namespace Go.Proofs.Ytcpgoaombabfjaa
/- THE CELL 'sum', in the pinned program and in every row, IS THE sha256 OF THE DUMP (.gsa) THAT YtcpgoaombabfjaaProg.lean LOADS. Nothing in Lean hashes anything: it is a label: what it is worth is what the hold of that sum in a sandbox is worth. -/
noncomputable def Try.pinned : Pinned := { name := "ytcpgoaombabfjaa", sum := "4bb2f5f3c990096865775d8a619e2094340a4f6badd04339ac2a2bb94f96f18a", checked := Try.checked }
namespace Rows
def none {H : Type} : Left H := { results := [], args := [] }

/-- 'equipoiselaw09.CoinUneven': WHATEVER THE INPUT: true; the input reads as it did. -/
def coinUnevenSpec : ChangeSpec := { name := "coinUneven", fn := fun _ => fun
  | [d1, d2, d3, d4] => { results := [.lit (.bool true)], args := [d1, d2, d3, d4] }
  | _ => none }
def coinUnevenRow : OpenClaim := { program := "ytcpgoaombabfjaa", sum := "4bb2f5f3c990096865775d8a619e2094340a4f6badd04339ac2a2bb94f96f18a", func := "equipoise/equipoiselaw09.CoinUneven", spec := "coinUneven", unfollowed := true, recurses := true, named := ["math/bits.overflowError"], apart := false }
def CoinUnevenSaid : Prop := coinUnevenRow.holds Try.pinned (OpenSpec.ofChange coinUnevenSpec)

/-- ITS FALSE NEIGHBOUR: 'it returns false'. Refute it at one input. -/
def coinUnevenWrong : ChangeSpec := { name := "coinUneven", fn := fun _ => fun
  | [d1, d2, d3, d4] => { results := [.lit (.bool false)], args := [d1, d2, d3, d4] }
  | _ => none }
def CoinUnevenWrongFalsely : Prop := coinUnevenRow.holds Try.pinned (OpenSpec.ofChange coinUnevenWrong)

/-- 'equipoiselaw09.CoinChoices': WHATEVER THE INPUT: true; the input reads as it did. -/
def coinChoicesSpec : ChangeSpec := { name := "coinChoices", fn := fun _ => fun
  | [d1, d2, d3] => { results := [.lit (.bool true)], args := [d1, d2, d3] }
  | _ => none }
def coinChoicesRow : OpenClaim := { program := "ytcpgoaombabfjaa", sum := "4bb2f5f3c990096865775d8a619e2094340a4f6badd04339ac2a2bb94f96f18a", func := "equipoise/equipoiselaw09.CoinChoices", spec := "coinChoices", unfollowed := true, recurses := true, named := ["math/bits.overflowError"], apart := false }
def CoinChoicesSaid : Prop := coinChoicesRow.holds Try.pinned (OpenSpec.ofChange coinChoicesSpec)

/-- ITS FALSE NEIGHBOUR: 'it returns false'. Refute it at one input. -/
def coinChoicesWrong : ChangeSpec := { name := "coinChoices", fn := fun _ => fun
  | [d1, d2, d3] => { results := [.lit (.bool false)], args := [d1, d2, d3] }
  | _ => none }
def CoinChoicesWrongFalsely : Prop := coinChoicesRow.holds Try.pinned (OpenSpec.ofChange coinChoicesWrong)

/-- 'equipoiselaw09.CoinShares': WHATEVER THE INPUT: true; the input reads as it did. -/
def coinSharesSpec : ChangeSpec := { name := "coinShares", fn := fun _ => fun
  | [d] => { results := [.lit (.bool true)], args := [d] }
  | _ => none }
def coinSharesRow : OpenClaim := { program := "ytcpgoaombabfjaa", sum := "4bb2f5f3c990096865775d8a619e2094340a4f6badd04339ac2a2bb94f96f18a", func := "equipoise/equipoiselaw09.CoinShares", spec := "coinShares", unfollowed := true, recurses := true, named := ["math/bits.overflowError"], apart := false }
def CoinSharesSaid : Prop := coinSharesRow.holds Try.pinned (OpenSpec.ofChange coinSharesSpec)

/-- ITS FALSE NEIGHBOUR: 'it returns false'. Refute it at one input. -/
def coinSharesWrong : ChangeSpec := { name := "coinShares", fn := fun _ => fun
  | [d] => { results := [.lit (.bool false)], args := [d] }
  | _ => none }
def CoinSharesWrongFalsely : Prop := coinSharesRow.holds Try.pinned (OpenSpec.ofChange coinSharesWrong)

/-- 'equipoiselaw09.CoinLeast': WHATEVER THE INPUT: true; the input reads as it did. -/
def coinLeastSpec : ChangeSpec := { name := "coinLeast", fn := fun _ => fun
  | [d] => { results := [.lit (.bool true)], args := [d] }
  | _ => none }
def coinLeastRow : OpenClaim := { program := "ytcpgoaombabfjaa", sum := "4bb2f5f3c990096865775d8a619e2094340a4f6badd04339ac2a2bb94f96f18a", func := "equipoise/equipoiselaw09.CoinLeast", spec := "coinLeast", unfollowed := true, recurses := true, named := ["math/bits.overflowError"], apart := false }
def CoinLeastSaid : Prop := coinLeastRow.holds Try.pinned (OpenSpec.ofChange coinLeastSpec)

/-- ITS FALSE NEIGHBOUR: 'it returns false'. Refute it at one input. -/
def coinLeastWrong : ChangeSpec := { name := "coinLeast", fn := fun _ => fun
  | [d] => { results := [.lit (.bool false)], args := [d] }
  | _ => none }
def CoinLeastWrongFalsely : Prop := coinLeastRow.holds Try.pinned (OpenSpec.ofChange coinLeastWrong)

/-- 'equipoiselaw09.CoinShifts': WHATEVER THE INPUT: true; the input reads as it did. -/
def coinShiftsSpec : ChangeSpec := { name := "coinShifts", fn := fun _ => fun
  | [d1, d2, d3] => { results := [.lit (.bool true)], args := [d1, d2, d3] }
  | _ => none }
def coinShiftsRow : OpenClaim := { program := "ytcpgoaombabfjaa", sum := "4bb2f5f3c990096865775d8a619e2094340a4f6badd04339ac2a2bb94f96f18a", func := "equipoise/equipoiselaw09.CoinShifts", spec := "coinShifts", unfollowed := true, recurses := true, named := ["math/bits.overflowError"], apart := false }
def CoinShiftsSaid : Prop := coinShiftsRow.holds Try.pinned (OpenSpec.ofChange coinShiftsSpec)

/-- ITS FALSE NEIGHBOUR: 'it returns false'. Refute it at one input. -/
def coinShiftsWrong : ChangeSpec := { name := "coinShifts", fn := fun _ => fun
  | [d1, d2, d3] => { results := [.lit (.bool false)], args := [d1, d2, d3] }
  | _ => none }
def CoinShiftsWrongFalsely : Prop := coinShiftsRow.holds Try.pinned (OpenSpec.ofChange coinShiftsWrong)

/-- 'equipoiselaw09.CoinEven': WHATEVER THE INPUT: true; the input reads as it did. -/
def coinEvenSpec : ChangeSpec := { name := "coinEven", fn := fun _ => fun
  | [d1, d2, d3] => { results := [.lit (.bool true)], args := [d1, d2, d3] }
  | _ => none }
def coinEvenRow : OpenClaim := { program := "ytcpgoaombabfjaa", sum := "4bb2f5f3c990096865775d8a619e2094340a4f6badd04339ac2a2bb94f96f18a", func := "equipoise/equipoiselaw09.CoinEven", spec := "coinEven", unfollowed := true, recurses := true, named := ["math/bits.overflowError"], apart := false }
def CoinEvenSaid : Prop := coinEvenRow.holds Try.pinned (OpenSpec.ofChange coinEvenSpec)

/-- ITS FALSE NEIGHBOUR: 'it returns false'. Refute it at one input. -/
def coinEvenWrong : ChangeSpec := { name := "coinEven", fn := fun _ => fun
  | [d1, d2, d3] => { results := [.lit (.bool false)], args := [d1, d2, d3] }
  | _ => none }
def CoinEvenWrongFalsely : Prop := coinEvenRow.holds Try.pinned (OpenSpec.ofChange coinEvenWrong)

/- THE SECOND FORM. 'bulk': how many values and letters a reading holds, each counted each time it is reached (what is shared counts as often as it is met; a slice's spare places count too). A statement '..UptoSaid' is the law's where the arguments, and the package variables that the reading takes, are together of bulk at most 1048576: NARROWER than '..Said'. Prove '..Said' where nothing that the law and all that it calls make is longer than what came in: it says more and counts as full. Else prove '..UptoSaid'. A law counts once. -/
mutual
def uptoBulk {H : Type} : DataW H → Nat
  | .lit (.string bytes) => bytes.length + 1
  | .lit _ => 1
  | .nil => 1
  | .ptr d => uptoBulk d + 1
  | .slice elems spare => uptoBulkAll elems + uptoBulkAll spare + 1
  | .agg parts => uptoBulkAll parts + 1
  | .iface _ d => uptoBulk d + 1
  | .map entries => uptoBulkEntries entries + 1
  | .held _ => 1
def uptoBulkAll {H : Type} : List (DataW H) → Nat
  | [] => 0
  | d :: r => uptoBulk d + uptoBulkAll r
def uptoBulkEntries {H : Type} : List (Lit × DataW H) → Nat
  | [] => 0
  | x :: r => uptoBulkEntry x + uptoBulkEntries r
def uptoBulkEntry {H : Type} : Lit × DataW H → Nat
  | (.string bytes, d) => bytes.length + uptoBulk d + 1
  | (_, d) => uptoBulk d + 1
 end
def uptoSmall : (H : Type) → List (DataW H) → Bool := fun _ ds => decide (uptoBulkAll ds ≤ 1048576)
def OpenSpec.upto (s : _root_.Go.ChangeSpec) : _root_.Go.OpenSpec := { _root_.Go.OpenSpec.ofChange s with cond := some uptoSmall }

/-- 'equipoiselaw09.CoinUneven', WHERE WHAT IT READS IS OF BULK AT MOST 1048576: true; the input reads as it did. -/
def coinUnevenUptoRow : OpenClaim := { program := "ytcpgoaombabfjaa", sum := "4bb2f5f3c990096865775d8a619e2094340a4f6badd04339ac2a2bb94f96f18a", func := "equipoise/equipoiselaw09.CoinUneven", spec := "coinUneven", unfollowed := true, recurses := true, named := ["math/bits.overflowError"], apart := false, narrowed := true }
def CoinUnevenUptoSaid : Prop := coinUnevenUptoRow.holds Try.pinned (OpenSpec.upto coinUnevenSpec)

/-- 'equipoiselaw09.CoinChoices', WHERE WHAT IT READS IS OF BULK AT MOST 1048576: true; the input reads as it did. -/
def coinChoicesUptoRow : OpenClaim := { program := "ytcpgoaombabfjaa", sum := "4bb2f5f3c990096865775d8a619e2094340a4f6badd04339ac2a2bb94f96f18a", func := "equipoise/equipoiselaw09.CoinChoices", spec := "coinChoices", unfollowed := true, recurses := true, named := ["math/bits.overflowError"], apart := false, narrowed := true }
def CoinChoicesUptoSaid : Prop := coinChoicesUptoRow.holds Try.pinned (OpenSpec.upto coinChoicesSpec)

/-- 'equipoiselaw09.CoinShares', WHERE WHAT IT READS IS OF BULK AT MOST 1048576: true; the input reads as it did. -/
def coinSharesUptoRow : OpenClaim := { program := "ytcpgoaombabfjaa", sum := "4bb2f5f3c990096865775d8a619e2094340a4f6badd04339ac2a2bb94f96f18a", func := "equipoise/equipoiselaw09.CoinShares", spec := "coinShares", unfollowed := true, recurses := true, named := ["math/bits.overflowError"], apart := false, narrowed := true }
def CoinSharesUptoSaid : Prop := coinSharesUptoRow.holds Try.pinned (OpenSpec.upto coinSharesSpec)

/-- 'equipoiselaw09.CoinLeast', WHERE WHAT IT READS IS OF BULK AT MOST 1048576: true; the input reads as it did. -/
def coinLeastUptoRow : OpenClaim := { program := "ytcpgoaombabfjaa", sum := "4bb2f5f3c990096865775d8a619e2094340a4f6badd04339ac2a2bb94f96f18a", func := "equipoise/equipoiselaw09.CoinLeast", spec := "coinLeast", unfollowed := true, recurses := true, named := ["math/bits.overflowError"], apart := false, narrowed := true }
def CoinLeastUptoSaid : Prop := coinLeastUptoRow.holds Try.pinned (OpenSpec.upto coinLeastSpec)

/-- 'equipoiselaw09.CoinShifts', WHERE WHAT IT READS IS OF BULK AT MOST 1048576: true; the input reads as it did. -/
def coinShiftsUptoRow : OpenClaim := { program := "ytcpgoaombabfjaa", sum := "4bb2f5f3c990096865775d8a619e2094340a4f6badd04339ac2a2bb94f96f18a", func := "equipoise/equipoiselaw09.CoinShifts", spec := "coinShifts", unfollowed := true, recurses := true, named := ["math/bits.overflowError"], apart := false, narrowed := true }
def CoinShiftsUptoSaid : Prop := coinShiftsUptoRow.holds Try.pinned (OpenSpec.upto coinShiftsSpec)

/-- 'equipoiselaw09.CoinEven', WHERE WHAT IT READS IS OF BULK AT MOST 1048576: true; the input reads as it did. -/
def coinEvenUptoRow : OpenClaim := { program := "ytcpgoaombabfjaa", sum := "4bb2f5f3c990096865775d8a619e2094340a4f6badd04339ac2a2bb94f96f18a", func := "equipoise/equipoiselaw09.CoinEven", spec := "coinEven", unfollowed := true, recurses := true, named := ["math/bits.overflowError"], apart := false, narrowed := true }
def CoinEvenUptoSaid : Prop := coinEvenUptoRow.holds Try.pinned (OpenSpec.upto coinEvenSpec)

end Rows
end Go.Proofs.Ytcpgoaombabfjaa
