/- What the laws' liftings need of the program itself. Plain facts of its tables. -/
import Derived.Test.YtigpccfglicjeaaLift
import Derived.Test.YtigpccfglicjeaaRows
namespace Go.Proofs.Ytigpccfglicjeaa
open Go.RowKit Go.WideShapes Go.ChangeShapes Go.ChangeAt

theorem Try.own : ownKnob Try.prog.godebug = none := by kernel_rfl
theorem Try.laidOut : laidOutB Try.prog = true := by kernel_rfl
theorem keyCells : Try.prog.cellsOf 25 = 32 := by kernel_rfl
theorem byteCells : Try.prog.cellsOf 5 = 1 := by kernel_rfl
def zeroKey : Value := .agg (List.replicate 32 (Value.int .u8 0)).toArray
theorem wf_key {zs : List Int} (hl : zs.length = 32) (hw : ∀ z ∈ zs, (Lit.int .u8 z).wf = true) : ∀ i, i < 32 → 0 ≤ zs.getD i 0 ∧ zs.getD i 0 ≤ 255 := fun i hi => by
  refine wf_u8 (hw _ ?_)
  rw [List.getD_eq_getElem?_getD, List.getElem?_eq_getElem (by omega)]
  exact List.getElem_mem _
end Go.Proofs.Ytigpccfglicjeaa
