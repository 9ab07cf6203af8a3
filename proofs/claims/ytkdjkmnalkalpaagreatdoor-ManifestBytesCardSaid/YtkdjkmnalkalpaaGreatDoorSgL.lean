/- One segment: what is made of it by calls that go well. Plain; nothing is walked. The statements of layer 4: the fixed fact. -/
import Derived.Test.YtkdjkmnalkalpaaGreatDoorSgJ
import Derived.Test.YtkdjkmnalkalpaaGreatDoorFsX
namespace Go.Proofs.YtkdjkmnalkalpaaGreatDoor
open Go.RowKit Go.Maps Go.WideMaps
set_option maxRecDepth 100000
set_option maxRecDepth 100000

theorem nameB_nameV {id : Int} (h1 : 1 ≤ id) (h2 : id ≤ 2147483647) : nameB (nameV id) = true := by
  have hl := nameV_list h1 h2
  have h5 := nameV_min h1 h2
  have h14 := nameV_size id
  unfold nameB
  rw [show decide (1 ≤ (nameV id).size) = true by simp; omega, show decide ((nameV id).size ≤ 20) = true by simp; omega]
  have ho : oddS (nameV id) = false := by
    unfold oddS
    rw [hl]
    rw [List.any_eq_false]
    intro c hc
    simp only [List.mem_cons] at hc
    rcases hc with rfl | rfl | rfl | rfl | hc
    · decide
    · decide
    · decide
    · decide
    · have := digits_all _ c hc
      unfold oddB
      simp; omega
  rw [ho]; rfl
section
variable {A : FsA} {id : Int} {b n : Nat} {f : Fil} {room : Int}
theorem One.read (h : One A (nameV id) b f room n) : readA A (nameV id) = (f.data, 0) := by
  unfold readA
  rw [findA_some h.name h.get, if_pos rfl]
  simp [h.file]
end
end Go.Proofs.YtkdjkmnalkalpaaGreatDoor
namespace Go.Proofs.YtkdjkmnalkalpaaGreatDoor
open Go.RowKit
set_option maxRecDepth 100000
set_option maxRecDepth 100000

end Go.Proofs.YtkdjkmnalkalpaaGreatDoor
