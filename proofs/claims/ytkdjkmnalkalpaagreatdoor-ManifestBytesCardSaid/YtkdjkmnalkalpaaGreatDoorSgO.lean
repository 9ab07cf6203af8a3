/- What the listed variables of the library give the walks, as SgN has it. -/
import Derived.Test.YtkdjkmnalkalpaaGreatDoorSgS
import Derived.Test.YtkdjkmnalkalpaaGreatDoorCards
import Derived.Test.YtkdjkmnalkalpaaGreatDoorTie
import Derived.LaidMore
import Derived.LaidSub
import Derived.Lib.LaidTab
import Derived.Stop.LaidErr
import Derived.SevenTiedAt
import Derived.ProofKit
import Derived.OpenShut
import Derived.Stop.Joined
namespace Go.Proofs.YtkdjkmnalkalpaaGreatDoor
open Go.ChangeShapes Go.WideShapes Go.ChangeAt Go.WideElems Go.RowKit
set_option maxRecDepth 100000
set_option maxRecDepth 100000

theorem gTab : Tryz.prog.globalNamed "internal/strconv.uint64pow10" = some 3 := by kernel_rfl
theorem gSyn : Tryz.prog.globalNamed "strconv.ErrSyntax" = some 1 := by kernel_rfl
theorem gRng : Tryz.prog.globalNamed "strconv.ErrRange" = some 2 := by kernel_rfl
theorem tTab : (Tryz.prog.globals[3]?).map (·.type) = some 367 := by kernel_rfl
theorem tSyn : (Tryz.prog.globals[1]?).map (·.type) = some 242 := by kernel_rfl
theorem tRng : (Tryz.prog.globals[2]?).map (·.type) = some 242 := by kernel_rfl
theorem cErr : Tryz.prog.cellsOf 378 = 1 := by kernel_rfl
theorem cStr : Tryz.prog.cellsOf 9 = 1 := by kernel_rfl
theorem starErr : "*" ++ "errors.errorString" = "*errors.errorString" := by decide
theorem rowErr (u : TypeId) (h : Tryz.prog.typeName? 3 u = some "*errors.errorString") : u = 376 :=
  typeName_ptr_named (nm := "errors.errorString") (by rw [starErr]; kernel_rfl) (by kernel_rfl) (by decide) u (by rw [starErr]; exact h)
theorem numL_of {l : List (String × DataW Unit)} {W : World} (h : laidMetH Tryz.prog l W) (hp : (l.all fun x => x.2.handleName?.isNone) = true)
    (h1 : (l.filter fun x => x.1 == "internal/strconv.uint64pow10") = [("internal/strconv.uint64pow10", Rows.laid_internal_strconv_uint64pow10)])
    (h2 : (l.filter fun x => x.1 == "strconv.ErrSyntax") = [("strconv.ErrSyntax", Rows.laid_strconv_ErrSyntax)])
    (h3 : (l.filter fun x => x.1 == "strconv.ErrRange") = [("strconv.ErrRange", Rows.laid_strconv_ErrRange)]) : NumL W := by
  rw [MakeChecks.laidMetH_plain _ _ _ hp] at h
  have k1 := laidMet.filter (fun x => x.1 == "internal/strconv.uint64pow10") h
  have k2 := laidMet.filter (fun x => x.1 == "strconv.ErrSyntax") h
  have k3 := laidMet.filter (fun x => x.1 == "strconv.ErrRange") h
  rw [h1] at k1
  rw [h2] at k2
  rw [h3] at k3
  refine ⟨Lib.tabIs_of_head gTab tTab Tryz.underlying367 Tryz.underlying310 (by kernel_rfl) (by kernel_rfl) (show laidMet Tryz.prog (("internal/strconv.uint64pow10", Lib.tabData .u64 Lib.pow10Tab) :: []) W from k1), ?_, ?_⟩
  · obtain ⟨a, s, hv, _⟩ := laid_sentinel k2 gSyn tSyn Tryz.underlying242 rowErr Tryz.underlying376 Tryz.underlying378 rfl rfl Tryz.underlying9 cErr cStr
    exact ⟨_, (World.var?_cell gSyn hv 0).trans rfl, .inr ⟨_, _, rfl⟩⟩
  · obtain ⟨a, s, hv, _⟩ := laid_sentinel k3 gRng tRng Tryz.underlying242 rowErr Tryz.underlying376 Tryz.underlying378 rfl rfl Tryz.underlying9 cErr cStr
    exact ⟨_, (World.var?_cell gRng hv 0).trans rfl, .inr ⟨_, _, rfl⟩⟩
end Go.Proofs.YtkdjkmnalkalpaaGreatDoor
