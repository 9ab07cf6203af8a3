/- What the simfs laws' liftings need of the program itself. Plain facts of its tables. -/
import Derived.Test.YtpfbiijcmmkjlaaDoorLift
import Derived.Test.YtpfbiijcmmkjlaaDoorRows
import Derived.ChangeMaps
namespace Go.Proofs.YtpfbiijcmmkjlaaDoor
open Go.RowKit Go.WideShapes Go.ChangeShapes Go.ChangeAt
set_option maxRecDepth 100000

theorem Tryd.own : ownKnob Tryd.prog.godebug = none := by kernel_rfl
theorem Tryd.laidOut : laidOutB Tryd.prog = true := by kernel_rfl
theorem byteCells : Tryd.prog.cellsOf 5 = 1 := by kernel_rfl
end Go.Proofs.YtpfbiijcmmkjlaaDoor
