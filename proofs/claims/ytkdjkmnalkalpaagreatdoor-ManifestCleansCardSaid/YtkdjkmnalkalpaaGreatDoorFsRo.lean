/- The reference of layer 2 (rubricref02): 'Create' by what it makes of a file system. The reference of layer 2 (rubricref02): 'Append' by what it makes of a file system. The reference of layer 2 (rubricref02): what 'Crash' leaves; a region whose head loads and lays one block, in whatever order. The reference of layer 2 (rubricref02): 'Crash'. -/
import Derived.Test.YtkdjkmnalkalpaaGreatDoorFsRk
import Derived.Deep.RegionHeldLaw
import Derived.OrdersHeld
import Derived.Deep.RegionHeld
import Derived.Deep.DeepCutAuto
import Derived.Deep.CutBlock
namespace Go.Proofs.YtkdjkmnalkalpaaGreatDoor
open Go.RowKit
set_option maxRecDepth 100000

end Go.Proofs.YtkdjkmnalkalpaaGreatDoor
namespace Go.Proofs.YtkdjkmnalkalpaaGreatDoor
open Go.RowKit
set_option maxRecDepth 100000

end Go.Proofs.YtkdjkmnalkalpaaGreatDoor
namespace Go.Proofs.YtkdjkmnalkalpaaGreatDoor
open Go.RowKit
set_option maxRecDepth 100000

def preR (R : RSt) (i : Nat) : List RN := (R.changes.take i).foldl turnR R.sure
section
variable {w : World} {B : Nat} {room : Int} {box : List Value} {lv : Value} {D : List RN} {W W' : World} {fv dv v' : Value} {F N F' : List RN}
end
end Go.Proofs.YtkdjkmnalkalpaaGreatDoor
namespace Go.Proofs.YtkdjkmnalkalpaaGreatDoor
open Go.RowKit
set_option maxRecDepth 100000

end Go.Proofs.YtkdjkmnalkalpaaGreatDoor
