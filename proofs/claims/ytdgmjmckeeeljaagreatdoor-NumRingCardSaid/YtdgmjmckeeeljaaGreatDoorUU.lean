/- What the rows' condition gives: the table of powers of ten; and a world that meets it. No condition. -/
import Derived.Test.YtdgmjmckeeeljaaGreatDoorRows
import Derived.Test.YtdgmjmckeeeljaaGreatDoorOO
import Derived.LaidLaws
import Derived.LaidHandle
import Derived.Lib.LaidTab
import Derived.Deep.DeepLaidRun
import Derived.Stop.LaidErr
namespace Go.Proofs.YtdgmjmckeeeljaaGreatDoor
open Go.RowKit

/-- What the rows list. -/
abbrev laidL : List (String × DataW Unit) := Rows.numIntsRow.laid

theorem pow10_data : Rows.laid_internal_strconv_uint64pow10 (H := Unit) = Lib.tabData .u64 Lib.pow10Tab := by rfl
theorem pow10_named : Tryz.prog.globalNamed "internal/strconv.uint64pow10" = some 1 := by kernel_rfl

theorem tab_of_laid {W : World} (h : laidMetH Tryz.prog laidL W) : Tab W := by
  have h1 : laidMet Tryz.prog laidL W := h
  have h2 := h1.tail.tail
  rw [pow10_data] at h2
  exact Lib.tabIs_of_head pow10_named (by kernel_rfl) Tryz.underlying137 Tryz.underlying69 (by kernel_rfl) (by kernel_rfl) h2

/-- The cells of plain data. -/
def dataCells : DataW Unit → Array Value
  | .agg ds => (ds.map fun d => match d with | .lit (.int k z) => Value.int k z | _ => undef).toArray
  | _ => #[]

abbrev rangeS : ByteArray := ⟨#[118, 97, 108, 117, 101, 32, 111, 117, 116, 32, 111, 102, 32, 114, 97, 110, 103, 101]⟩
abbrev syntaxS : ByteArray := ⟨#[105, 110, 118, 97, 108, 105, 100, 32, 115, 121, 110, 116, 97, 120]⟩

noncomputable def low : Nat := (World.holding Tryz.prog default ⟨#[], #[], []⟩).heap.size

/-- A world that meets the condition: the settled one, the variables laid. -/
noncomputable def laidWorld (os : Os) : World :=
  let w0 := World.holding Tryz.prog os ⟨#[.cells #[.string rangeS] 153, .cells #[.string syntaxS] 153], #[], []⟩
  let put (g : Nat) (cs : Array Value) (h : Array Obj) : Array Obj := h.modify g fun
    | .cells _ t frozen => .cells cs t frozen
    | o => o
  { w0 with heap := put 5 (dataCells Rows.laid_math_bits_deBruijn32tab) (put 6 (dataCells Rows.laid_math_bits_deBruijn64tab) (put 1 (dataCells Rows.laid_internal_strconv_uint64pow10)
      (put 4 #[.iface 151 (.pointer (some ⟨low, 0, none⟩))] (put 3 #[.iface 151 (.pointer (some ⟨low + 1, 0, none⟩))] w0.heap)))) }

theorem laidWorld_met (os : Os) (args : Array Value) : laidMetH Tryz.prog laidL ((laidWorld os).forCall (fun _ _ => 0) ⟨#[], args, []⟩).memory :=
  (laidMet_of_run3 8 (by kernel_rfl) (by kernel_rfl) (by kernel_rfl) : laidMet Tryz.prog laidL ((laidWorld os).forCall (fun _ _ => 0) ⟨#[], args, []⟩).memory)

end Go.Proofs.YtdgmjmckeeeljaaGreatDoor
