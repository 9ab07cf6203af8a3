/- SeglogNames, lifted to the statement: any id has the document's name, or none; any text is the name of the document's id, or of none. For every id and every text, where the library's five listed variables read as their initialisers lay them (the card ties them). -/
import Derived.Test.YtpfbiijcmmkjlaaDoorSgM
import Derived.Test.YtpfbiijcmmkjlaaDoorCards
import Derived.Test.YtpfbiijcmmkjlaaDoorTie
import Derived.Test.YtpfbiijcmmkjlaaDoorFsO
import Derived.LaidMore
import Derived.LaidSub
import Derived.Lib.LaidTab
import Derived.Stop.LaidErr
import Derived.SevenTiedAt
import Derived.ProofKit
import Derived.OpenShut
import Derived.Stop.Joined
namespace Go.Proofs.YtpfbiijcmmkjlaaDoor
open Go.ChangeShapes Go.WideShapes Go.ChangeAt Go.WideElems Go.RowKit
set_option maxRecDepth 100000

theorem gTab : Tryd.prog.globalNamed "internal/strconv.uint64pow10" = some 2 := by kernel_rfl
theorem gSyn : Tryd.prog.globalNamed "strconv.ErrSyntax" = some 0 := by kernel_rfl
theorem gRng : Tryd.prog.globalNamed "strconv.ErrRange" = some 1 := by kernel_rfl
theorem tTab : (Tryd.prog.globals[2]?).map (·.type) = some 139 := by kernel_rfl
theorem tSyn : (Tryd.prog.globals[0]?).map (·.type) = some 50 := by kernel_rfl
theorem tRng : (Tryd.prog.globals[1]?).map (·.type) = some 50 := by kernel_rfl
theorem nErr : Tryd.prog.typeName? 3 145 = some "*errors.errorString" := by kernel_rfl
theorem cErr : Tryd.prog.cellsOf 147 = 1 := by kernel_rfl
theorem cStr : Tryd.prog.cellsOf 9 = 1 := by kernel_rfl
theorem starErr : "*" ++ "errors.errorString" = "*errors.errorString" := by decide
theorem rowErr (u : TypeId) (h : Tryd.prog.typeName? 3 u = some "*errors.errorString") : u = 145 :=
  typeName_ptr_named (nm := "errors.errorString") (by rw [starErr]; kernel_rfl) (by kernel_rfl) (by decide) u (by rw [starErr]; exact h)
/-- What the condition gives the walks. -/
theorem numL_of {l : List (String × DataW Unit)} {W : World} (h : laidMetH Tryd.prog l W) (hp : (l.all fun x => x.2.handleName?.isNone) = true)
    (h1 : (l.filter fun x => x.1 == "internal/strconv.uint64pow10") = [("internal/strconv.uint64pow10", Rows.laid_internal_strconv_uint64pow10)])
    (h2 : (l.filter fun x => x.1 == "strconv.ErrSyntax") = [("strconv.ErrSyntax", Rows.laid_strconv_ErrSyntax)])
    (h3 : (l.filter fun x => x.1 == "strconv.ErrRange") = [("strconv.ErrRange", Rows.laid_strconv_ErrRange)]) : NumL W := by
  rw [MakeChecks.laidMetH_plain _ _ _ hp] at h
  have k1 := laidMet.filter (fun x => x.1 == "internal/strconv.uint64pow10") h
  have k2 := laidMet.filter (fun x => x.1 == "strconv.ErrSyntax") h
  have k3 := laidMet.filter (fun x => x.1 == "strconv.ErrRange") h
  rw [h1] at k1
  rw [h2] at k2
  rw [h3] at k3
  refine ⟨Lib.tabIs_of_head gTab tTab Tryd.underlying139 Tryd.underlying125 (by kernel_rfl) (by kernel_rfl) (show laidMet Tryd.prog (("internal/strconv.uint64pow10", Lib.tabData .u64 Lib.pow10Tab) :: []) W from k1), ?_, ?_⟩
  · obtain ⟨a, s, hv, _⟩ := laid_sentinel k2 gSyn tSyn Tryd.underlying50 rowErr Tryd.underlying145 Tryd.underlying147 rfl rfl Tryd.underlying9 cErr cStr
    exact ⟨_, (World.var?_cell gSyn hv 0).trans rfl, .inr ⟨_, _, rfl⟩⟩
  · obtain ⟨a, s, hv, _⟩ := laid_sentinel k3 gRng tRng Tryd.underlying50 rowErr Tryd.underlying145 Tryd.underlying147 rfl rfl Tryd.underlying9 cErr cStr
    exact ⟨_, (World.var?_cell gRng hv 0).trans rfl, .inr ⟨_, _, rfl⟩⟩
theorem names_door (os : Os) (args : Array Value) : laidMetH Tryd.prog Rows.seglogNamesRow.laid ((World.doorLaid Tryd.prog 62 os).forCall (fun _ _ => 0) ⟨#[], args, []⟩).memory :=
  laidMetH_of_parts3 (fuel := 8) (laidMet_of_run' 8 (by kernel_rfl) (by kernel_rfl)) (by kernel_rfl) (by kernel_rfl)
theorem names_laid {W : World} (h : laidMetH Tryd.prog Rows.seglogNamesRow.laid W) : NumL W := numL_of h (by kernel_rfl) (by kernel_rfl) (by kernel_rfl) (by kernel_rfl)
theorem names_lifted (os : Os) (started : os.Started) (H : Type) (enc : TypeId × Value → H) :
    ReturnsInHanded {} Tryd.checked os 3 .any (fun w args => (Rows.seglogNamesSpec.pre enc Tryd.prog Tryd.f3 [] false w args ∧ laidMetH Tryd.prog Rows.seglogNamesRow.laid w) ∧ sizedMet enc Tryd.prog Tryd.f3 (OpenSpec.ofChange Rows.seglogNamesSpec) false w args)
      (Rows.seglogNamesSpec.post enc Tryd.prog Tryd.f3 false true false false) := by
  refine returnsInHanded_of_change_and (C := Tryd.checked) (X := fun w _ => laidMetH Tryd.prog Rows.seglogNamesRow.laid w) (fun _ _ _ hh h => h.of_heap hh) Tryd.own started (by kernel_rfl) Tryd.func3
    (ChangeSpec.witness_shaped (enc := enc) (C := Tryd.checked) (os := os) (X := fun w _ => laidMetH Tryd.prog Rows.seglogNamesRow.laid w) false (World.doorLaid Tryd.prog 62 os) #[.int .i64 0, .string ⟨#[]⟩] 8 rfl (World.shaped_of_RefB (by kernel_rfl) (by kernel_rfl)) (by kernel_rfl) (by kernel_rfl) (by kernel_rfl) (names_door os _)) ?_
  intro W base args ds gs before hval0 hW _ _ hL _
  have hval : ∀ (j : Nat) t v, Tryd.f3.params[j]? = some t → args[j]? = some v → Value.okWide Tryd.prog W .any base t v := hval0
  have hW' := hW
  obtain ⟨p, q, hA0, hV, hbe, hfz, hnd⟩ := hW
  have hA : DataW.TrodAll enc Tryd.prog W 0 (fun _ => true) true Tryd.f3.params.toList args.toList ds p := hA0
  rw [Tryd.params3] at hA hval
  obtain ⟨v0, v1, d0, d1, p0, p1, rfl, rfl, rfl, h0, h1⟩ := trodAll_two hA
  obtain ⟨n, rfl, _, _, _⟩ := open_int Tryd.underlying3 (hval 0 _ v0 rfl rfl) h0
  obtain ⟨s, rfl, _, _, ws⟩ := Go.ChangeMaps.open_string Tryd.underlying9 (hval 1 _ v1 rfl rfl) h1
  have hs : s.size ≤ 9223372036854775807 := by unfold maxLen at ws; omega
  clear hA0 hval0 hfz hnd
  refine (namesLaw_any n s W (names_laid hL) hs).mono fun e W' ⟨he, hb⟩ => ?_
  subst he
  obtain rfl : gs = [] := (trodVars_none hV).1
  exact ⟨_, rfl, law_post Tryd.laidOut hW' rfl (by rw [Tryd.params3]; decide +kernel) (tb := 4) rfl Tryd.underlying4 hb rfl⟩
theorem names_row : Rows.SeglogNamesSaid :=
  OpenClaim.holds_of_wide 3 Tryd.f3 rfl rfl rfl rfl rfl rfl rfl ⟨rfl, rfl, rfl, rfl, rfl⟩ rfl rfl rfl rfl rfl (by kernel_rfl) Tryd.func3 (by kernel_rfl)
    (of_decide_eq_true (by kernel_rfl)) (by unfold Func.isWrapper; first | (rw [if_pos (by decide +kernel)]; kernel_rfl) | (rw [if_neg (by decide +kernel)]; exact ⟨rfl, rfl⟩))
    (fun os started H enc _ => names_lifted os started H enc)
theorem names_card : Rows.SeglogNamesCardSaid :=
  Claim7.holds_tied_plain_at .later [] [.data, .data, .data, .sentinel, .sentinel] true (true, "e4299e83f3b9ba55126ee25328b832c7984314c5b0aefe49478dc4cee8b3f4e2") true
    names_row (fun _ h => by cases h) (by kernel_rfl) (fun _ h => by cases h) seglogNames_row_tie rfl ⟨rfl, rfl⟩ (by kernel_rfl) rfl
    (fun f fn hf hfn => by
      obtain rfl : f = 3 := Option.some.inj ((show Tryd.prog.funcNamed "rubric/rubriclaw04.SeglogNames" = some 3 by kernel_rfl).symm.trans hf) |>.symm
      obtain rfl : fn = Tryd.f3 := (Option.some.inj (Tryd.func3.symm.trans hfn)).symm
      exact ⟨by kernel_rfl, fun j t ht => by
        rw [Tryd.params3] at ht
        have hm : t ∈ [3, 9] := by simpa using Array.mem_of_getElem? ht
        have hall : ([3, 9].all fun u => !Tryd.prog.wantsStandIn u) = true := by kernel_rfl
        exact (show Tryd.prog.wantsStandIn t = false by simpa using List.all_eq_true.1 hall t hm)⟩)
    (by kernel_rfl)
end Go.Proofs.YtpfbiijcmmkjlaaDoor
