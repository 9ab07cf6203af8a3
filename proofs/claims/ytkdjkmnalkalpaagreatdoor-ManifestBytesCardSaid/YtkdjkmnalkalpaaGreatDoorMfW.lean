/- Package manifest: what a crash leaves of it, and what is read. Plain; nothing of the program. -/
import Derived.Test.YtkdjkmnalkalpaaGreatDoorMfU
import Derived.Test.YtkdjkmnalkalpaaGreatDoorMfF
namespace Go.Proofs.YtkdjkmnalkalpaaGreatDoor
open Go.RowKit Go.Maps Go.WideMaps
set_option maxRecDepth 100000

theorem read_all {A : FsA} {n : Nat} {m : Option (List Int)} (hI : Inv A n) (h : AllM A m) : readA A nMan = (m.getD [], if m.isSome then 0 else 3) := by
  have h1 := h A.since.length
  rw [← hI.now] at h1
  cases m with
  | none => exact readA_none nameMan h1
  | some B =>
    obtain ⟨b, f, h1, h2, h3, h4⟩ := h1
    rw [readA_some nameMan h1 h2, h3]
    rfl
theorem new_all (room : Int) : AllM (newA room) none := fun i => by
  have : preD (newA room) i = .map [] := by unfold preD newA; simp
  show dget _ nMan = none
  rw [this]
  rfl
end Go.Proofs.YtkdjkmnalkalpaaGreatDoor
