/- Package simfs: two files, one of them renamed; what a crash leaves of them. Package simfs: a file that is renamed over another one, and what a crash leaves; how many names a crash leaves. -/
import Derived.Test.YtkdjkmnalkalpaaGreatDoorFsOb
namespace Go.Proofs.YtkdjkmnalkalpaaGreatDoor
open Go.RowKit Go.Maps Go.WideMaps
set_option maxRecDepth 100000

section
variable {w0 w : World} {g : Nat} {A : FsA} {s : ByteArray} {b b' : Nat} {f f' : Fil} {room : Int} {n : Nat}
theorem readA_some {X : FsA} {s : ByteArray} {b : Nat} {f : Fil} (hs : nameB s = true) (hd : dget X.now s = some b) (hf : X.file b = some f) : readA X s = (f.data, 0) := by
  unfold readA; rw [findA_some hs hd]; simp [hf]
theorem readA_none {X : FsA} {s : ByteArray} (hs : nameB s = true) (hd : dget X.now s = none) : readA X s = ([], 3) := by
  unfold readA; rw [findA_none hs hd]; rfl
end
end Go.Proofs.YtkdjkmnalkalpaaGreatDoor
namespace Go.Proofs.YtkdjkmnalkalpaaGreatDoor
open Go.RowKit Go.Maps Go.WideMaps
set_option maxRecDepth 100000

theorem names_size {D : DataW Unit} (h : Maps.IsMap D) : (namesD D).length = Maps.size D := by
  obtain ⟨es, rfl⟩ := h
  unfold namesD
  rw [List.length_mergeSort, size_eq]
  simp [strKeys]
section
variable {A : FsA} {L : DataW Unit} {tails : List Int}
end
section
variable {w0 w : World} {g : Nat} {A : FsA} {b b' : Nat} {f f' : Fil} {n : Nat} {D Su : DataW Unit} {cs : List Chg}
end
end Go.Proofs.YtkdjkmnalkalpaaGreatDoor
