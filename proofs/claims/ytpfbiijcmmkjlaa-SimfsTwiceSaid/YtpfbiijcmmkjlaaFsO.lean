/- What the simfs laws' liftings need of the program itself. Plain facts of its tables. -/
import Derived.Test.YtpfbiijcmmkjlaaLift
import Derived.Test.YtpfbiijcmmkjlaaRows
import Derived.ChangeMaps
namespace Go.Proofs.Ytpfbiijcmmkjlaa
open Go.RowKit Go.WideShapes Go.ChangeShapes Go.ChangeAt

theorem Try.own : ownKnob Try.prog.godebug = none := by kernel_rfl
theorem Try.laidOut : laidOutB Try.prog = true := by kernel_rfl
theorem byteCells : Try.prog.cellsOf 5 = 1 := by kernel_rfl
end Go.Proofs.Ytpfbiijcmmkjlaa
