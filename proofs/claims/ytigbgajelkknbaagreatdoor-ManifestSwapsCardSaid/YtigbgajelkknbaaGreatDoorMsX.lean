/- ManifestSwaps, lifted to the statement: wherever a Save fails, and wherever the power goes within it, whatever is kept, what is loaded is the manifest ahead of it, or the new one; again and again. For every list of manifests, every list of plans and every list of numbers, where the library's listed variables read as their initialisers lay them (the card ties them). -/
import Derived.Test.YtigbgajelkknbaaGreatDoorSgO
import Derived.Test.YtigbgajelkknbaaGreatDoorMsB
import Derived.Test.YtigbgajelkknbaaGreatDoorLift
import Derived.Lay
namespace Go.Proofs.YtigbgajelkknbaaGreatDoor
open Go.ChangeShapes Go.WideShapes Go.ChangeAt Go.WideElems Go.RowKit
set_option maxRecDepth 100000

theorem swaps_laid {W : World} (h : laidMetH Tryz.prog Rows.manifestSwapsRow.laid W) : NumL W := numL_of h (by kernel_rfl) (by kernel_rfl) (by kernel_rfl) (by kernel_rfl)
theorem swaps_lifted (os : Os) (started : os.Started) (H : Type) (enc : TypeId × Value → H) :
    ReturnsInHanded {} Tryz.checked os 6 .any (fun w args => (Rows.manifestSwapsSpec.pre enc Tryz.prog Tryz.f6 [] false w args ∧ laidMetH Tryz.prog Rows.manifestSwapsRow.laid w) ∧ sizedMet enc Tryz.prog Tryz.f6 (OpenSpec.ofChange Rows.manifestSwapsSpec) false w args)
      (Rows.manifestSwapsSpec.post enc Tryz.prog Tryz.f6 false true false false) := by
  refine returnsInHanded_of_change_and (C := Tryz.checked) (X := fun w _ => laidMetH Tryz.prog Rows.manifestSwapsRow.laid w) (fun _ _ _ hh h => h.of_heap hh) Tryz.own started (by kernel_rfl) Tryz.func6
    (ChangeSpec.witness_shaped (enc := enc) (C := Tryz.checked) (os := os) (X := fun w _ => laidMetH Tryz.prog Rows.manifestSwapsRow.laid w) false (World.laidAll Tryz.prog os Rows.manifestSwapsRow.laid) #[.slice none 0 0, .slice none 0 0, .slice none 0 0] 8 (World.laidAll_os _ _ _)
      (World.shaped_of_ZipB (by kernel_rfl) (by kernel_rfl)) (by kernel_rfl) (by kernel_rfl) (by kernel_rfl)
      (by rw [MakeChecks.laidMetH_plain _ _ _ (by kernel_rfl)]; exact laidMet_laidAll _ (by kernel_rfl) (by kernel_rfl))) ?_
  intro W base args ds gs before hval0 hW _ _ hL _
  have hval : ∀ (j : Nat) t v, Tryz.f6.params[j]? = some t → args[j]? = some v → Value.okWide Tryz.prog W .any base t v := hval0
  have hW' := hW
  obtain ⟨p, q, hA0, hV, hbe, hfz, hnd⟩ := hW
  have hA : DataW.TrodAll enc Tryz.prog W 0 (fun _ => true) true Tryz.f6.params.toList args.toList ds p := hA0
  rw [Tryz.params6] at hA hval
  obtain ⟨v0, v1, v2, d0, d1, d2, p0, p1, p2, rfl, rfl, rfl, h0, h1, h2⟩ := trodAll_three hA
  obtain ⟨ms, hm, hmo⟩ := open_mans (hval 0 _ v0 rfl rfl) h0
  obtain ⟨ls, hs, hso⟩ := open_rows Tryz.underlying90 Tryz.underlying23 Tryz.underlying3 (by kernel_rfl) opCellsI (hval 1 _ v1 rfl rfl) h1
  obtain ⟨ks, hk, hkl, hkw⟩ := open_ints' Tryz.underlying23 Tryz.underlying3 opCellsI (hval 2 _ v2 rfl rfl) h2
  clear hA0 hval0 hfz hnd
  refine (swaps_any v0 v1 v2 ms ls ks W (swaps_laid hL) hm hmo hs hso hk hkl).mono fun e W' ⟨he, hb⟩ => ?_
  subst he
  obtain rfl : gs = [] := (trodVars_none hV).1
  exact ⟨_, rfl, law_post Tryz.laidOut hW' rfl (by rw [Tryz.params6]; decide +kernel) (tb := 4) rfl Tryz.underlying4 hb rfl⟩
theorem swaps_row : Rows.ManifestSwapsSaid :=
  OpenClaim.holds_of_wide 6 Tryz.f6 rfl rfl rfl rfl rfl rfl rfl ⟨rfl, rfl, rfl, rfl, rfl⟩ rfl rfl rfl rfl rfl (by kernel_rfl) Tryz.func6 (by kernel_rfl)
    (of_decide_eq_true (by kernel_rfl)) (by unfold Func.isWrapper; first | (rw [if_pos (by decide +kernel)]; kernel_rfl) | (rw [if_neg (by decide +kernel)]; exact ⟨rfl, rfl⟩))
    (fun os started H enc _ => swaps_lifted os started H enc)
theorem swaps_card : Rows.ManifestSwapsCardSaid :=
  Claim7.holds_tied_plain_at .later [] [.data, .data, .data, .data, .sentinel, .sentinel, .pinned] true (true, "b687adccdc49a17c1b80c3226eae3e822ef5c379986e58845dd187cb53792c24") true
    swaps_row (fun _ h => by cases h) (by kernel_rfl) (fun _ h => by cases h) manifestSwaps_row_tie rfl ⟨rfl, rfl⟩ (by kernel_rfl) rfl
    (fun f fn hf hfn => by
      obtain rfl : f = 6 := Option.some.inj ((show Tryz.prog.funcNamed "rubric/rubriclaw05.ManifestSwaps" = some 6 by kernel_rfl).symm.trans hf) |>.symm
      obtain rfl : fn = Tryz.f6 := (Option.some.inj (Tryz.func6.symm.trans hfn)).symm
      exact ⟨by kernel_rfl, fun j t ht => by
        rw [Tryz.params6] at ht
        have hm : t ∈ [89, 90, 23] := by simpa using Array.mem_of_getElem? ht
        have hall : ([89, 90, 23].all fun u => !Tryz.prog.wantsStandIn u) = true := by kernel_rfl
        exact (show Tryz.prog.wantsStandIn t = false by simpa using List.all_eq_true.1 hall t hm)⟩)
    (by kernel_rfl)
end Go.Proofs.YtigbgajelkknbaaGreatDoor
