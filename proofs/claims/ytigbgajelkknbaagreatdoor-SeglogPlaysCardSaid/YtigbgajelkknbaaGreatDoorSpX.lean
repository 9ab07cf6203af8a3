/- SeglogPlays, lifted to the statement: whatever segments are created and appended, whatever happens to the file system, all answers, and all steps, are the document's; so is what is read. For every script and every list of ids, where the library's five listed variables read as their initialisers lay them (the card ties them). -/
import Derived.Test.YtigbgajelkknbaaGreatDoorSgO
import Derived.Test.YtigbgajelkknbaaGreatDoorSpB
import Derived.Test.YtigbgajelkknbaaGreatDoorSpC
import Derived.Test.YtigbgajelkknbaaGreatDoorLift
import Derived.Lay
namespace Go.Proofs.YtigbgajelkknbaaGreatDoor
open Go.ChangeShapes Go.WideShapes Go.ChangeAt Go.WideElems Go.RowKit
set_option maxRecDepth 100000

section
variable {H : Type} {enc : TypeId × Value → H} {P : Program}
/-- An argument that is a slice of numbers. -/
theorem open_nums {r : Reach} {b0 : Nat} {t e : Nat} {w : World} {base : Nat} {spare : Nat → Bool} {held : Bool} {v : Value} {d : DataW H} {ps : List MemPlace}
    (ht : P.underlying t = some (.slice e)) (he : P.underlying e = some (.int .i64)) (hcE : P.cellsOf e = 1)
    (hval : Value.okWide P w r b0 t v) (hd : DataW.Trod enc P w base spare held t v d ps) : ∃ zs : List Int, Ints w v zs ∧ zs.length < 9223372036854775808 ∧ ∀ z ∈ zs, (Lit.int .i64 z).wf = true := by
  obtain ⟨a0, len, cap, rfl⟩ := okWide_slice ht hval
  obtain ⟨fuel, hf⟩ := hd
  rcases open_ints ht he hcE hf with ⟨hcs, _⟩ | ⟨a, len', cap', zs, hcs, _, hl, hm, hz, hx, hcell, hwz⟩
  · simp [Value.cells] at hcs
    obtain ⟨rfl, rfl, rfl⟩ := hcs
    exact ⟨[], Or.inl ⟨rfl, rfl⟩, by simp, fun z hz => by cases hz⟩
  · simp [Value.cells] at hcs
    obtain ⟨rfl, rfl, rfl⟩ := hcs
    have hok : w.has P r b0 a e cap := by
      unfold Value.okWide Cell.okWide Cell.ok at hval
      rw [ht] at hval
      exact hval.2.2
    obtain ⟨_, hsp, row, cells, hsh, _⟩ := hok
    have hlz : len ≤ zs.length := by rw [hz]; split <;> omega
    have hlen : (zs.take len).length = len := by simp; omega
    obtain ⟨ab, ao, asp⟩ := a
    cases hsp
    refine ⟨zs.take len, Or.inr ⟨ab, ao, cap, by rw [hlen], Fr.shape_lt hsh, fun j u hu => ?_⟩, by rw [hlen]; unfold maxLen at hm; omega, fun z hz => hwz z (List.mem_of_mem_take hz)⟩
    rw [List.getElem?_map] at hu
    cases hj : (zs.take len)[j]? with
    | none => rw [hj] at hu; cases hu
    | some x =>
      rw [hj] at hu
      cases hu
      have hjl : j < len := by have := (List.getElem?_eq_some_iff.1 hj).1; omega
      have hc := hcell j (by omega)
      rw [List.getElem?_take_of_lt hjl] at hj
      rw [List.getD_eq_getElem?_getD, hj] at hc
      simpa [Addr.add] using (show w.cell? ⟨ab, ao + j, none⟩ = _ by
        have e : Addr.add ⟨ab, ao, none⟩ j = ⟨ab, ao + j, none⟩ := by unfold Addr.add; by_cases h : j = 0 <;> simp [h]
        rw [← e]; exact hc)
end
theorem plays4_laid {W : World} (h : laidMetH Tryz.prog Rows.seglogPlaysRow.laid W) : NumL W := numL_of h (by kernel_rfl) (by kernel_rfl) (by kernel_rfl) (by kernel_rfl)
theorem plays4_lifted (os : Os) (started : os.Started) (H : Type) (enc : TypeId × Value → H) :
    ReturnsInHanded {} Tryz.checked os 3 .any (fun w args => (Rows.seglogPlaysSpec.pre enc Tryz.prog Tryz.f3 [] false w args ∧ laidMetH Tryz.prog Rows.seglogPlaysRow.laid w) ∧ sizedMet enc Tryz.prog Tryz.f3 (OpenSpec.ofChange Rows.seglogPlaysSpec) false w args)
      (Rows.seglogPlaysSpec.post enc Tryz.prog Tryz.f3 false true false false) := by
  refine returnsInHanded_of_change_and (C := Tryz.checked) (X := fun w _ => laidMetH Tryz.prog Rows.seglogPlaysRow.laid w) (fun _ _ _ hh h => h.of_heap hh) Tryz.own started (by kernel_rfl) Tryz.func3
    (ChangeSpec.witness_shaped (enc := enc) (C := Tryz.checked) (os := os) (X := fun w _ => laidMetH Tryz.prog Rows.seglogPlaysRow.laid w) false (World.laidAll Tryz.prog os Rows.seglogPlaysRow.laid) #[.slice none 0 0, .slice none 0 0] 8 (World.laidAll_os _ _ _)
      (World.shaped_of_ZipB (by kernel_rfl) (by kernel_rfl)) (by kernel_rfl) (by kernel_rfl) (by kernel_rfl)
      (by rw [MakeChecks.laidMetH_plain _ _ _ (by kernel_rfl)]; exact laidMet_laidAll _ (by kernel_rfl) (by kernel_rfl))) ?_
  intro W base args ds gs before hval0 hW _ _ hL _
  have hval : ∀ (j : Nat) t v, Tryz.f3.params[j]? = some t → args[j]? = some v → Value.okWide Tryz.prog W .any base t v := hval0
  have hW' := hW
  obtain ⟨p, q, hA0, hV, hbe, hfz, hnd⟩ := hW
  have hA : DataW.TrodAll enc Tryz.prog W 0 (fun _ => true) true Tryz.f3.params.toList args.toList ds p := hA0
  rw [Tryz.params3] at hA hval
  obtain ⟨v0, v1, d0, d1, p0, p1, rfl, rfl, rfl, h0, h1⟩ := trodAll_two hA
  obtain ⟨ops, hat, hok⟩ := open_opsG (hval 0 _ v0 rfl rfl) h0
  obtain ⟨ns, hn, hnl, hnw⟩ := open_nums Tryz.underlying23 Tryz.underlying3 opCellsI (hval 1 _ v1 rfl rfl) h1
  clear hA0 hval0 hfz hnd
  refine (playsLaw4_any v0 v1 ops ns W (plays4_laid hL) hat hok hn hnl).mono fun e W' ⟨he, hb⟩ => ?_
  subst he
  obtain rfl : gs = [] := (trodVars_none hV).1
  exact ⟨_, rfl, law_post Tryz.laidOut hW' rfl (by rw [Tryz.params3]; decide +kernel) (tb := 4) rfl Tryz.underlying4 hb rfl⟩
theorem plays4_row : Rows.SeglogPlaysSaid :=
  OpenClaim.holds_of_wide 3 Tryz.f3 rfl rfl rfl rfl rfl rfl rfl ⟨rfl, rfl, rfl, rfl, rfl⟩ rfl rfl rfl rfl rfl (by kernel_rfl) Tryz.func3 (by kernel_rfl)
    (of_decide_eq_true (by kernel_rfl)) (by unfold Func.isWrapper; first | (rw [if_pos (by decide +kernel)]; kernel_rfl) | (rw [if_neg (by decide +kernel)]; exact ⟨rfl, rfl⟩))
    (fun os started H enc _ => plays4_lifted os started H enc)
theorem plays4_card : Rows.SeglogPlaysCardSaid :=
  Claim7.holds_tied_plain_at .later [] [.data, .data, .data, .sentinel, .sentinel] true (true, "b687adccdc49a17c1b80c3226eae3e822ef5c379986e58845dd187cb53792c24") true
    plays4_row (fun _ h => by cases h) (by kernel_rfl) (fun _ h => by cases h) seglogPlays_row_tie rfl ⟨rfl, rfl⟩ (by kernel_rfl) rfl
    (fun f fn hf hfn => by
      obtain rfl : f = 3 := Option.some.inj ((show Tryz.prog.funcNamed "rubric/rubriclaw04.SeglogPlays" = some 3 by kernel_rfl).symm.trans hf) |>.symm
      obtain rfl : fn = Tryz.f3 := (Option.some.inj (Tryz.func3.symm.trans hfn)).symm
      exact ⟨by kernel_rfl, fun j t ht => by
        rw [Tryz.params3] at ht
        have hm : t ∈ [22, 23] := by simpa using Array.mem_of_getElem? ht
        have hall : ([22, 23].all fun u => !Tryz.prog.wantsStandIn u) = true := by kernel_rfl
        exact (show Tryz.prog.wantsStandIn t = false by simpa using List.all_eq_true.1 hall t hm)⟩)
    (by kernel_rfl)
end Go.Proofs.YtigbgajelkknbaaGreatDoor
