/- Package simfs: the names of a directory, rising. -/
import Derived.Test.YtpfbiijcmmkjlaaDoorFsL
import Derived.Sort.KeysCollected
import Derived.Sort.OwnSorted
namespace Go.Proofs.YtpfbiijcmmkjlaaDoor
open Go.RowKit Go.Maps Go.WideMaps
set_option maxRecDepth 100000

theorem strInfo : (Tryd.prog.info? 9).map (fun i => (i.zero, i.size, i.bytes)) = some (some (.string ⟨#[]⟩), 1, 16) := by kernel_rfl
/-- The names of a directory. -/
def namesD (D : DataW Unit) : List (List UInt8) := (strKeys D).mergeSort leB
theorem namesD_length {w : World} {b : Nat} {D : DataW Unit} (h : Dir w b D) : (namesD D).length = Maps.size D := by
  obtain ⟨es, rfl, _⟩ := h.canon
  unfold namesD
  rw [List.length_mergeSort, size_eq]
  simp [strKeys]

end Go.Proofs.YtpfbiijcmmkjlaaDoor
