/- SimfsFull, lifted to the statement: there is room for so many bytes, and for 64 names, and not for one more. For every number and every slice of numbers; no condition. -/
import Derived.Test.YtcnklondaihbmaaFsFull
namespace Go.Proofs.Ytcnklondaihbmaa
open Go.RowKit Go.WideShapes Go.ChangeShapes Go.ChangeAt
theorem intCells : Try.prog.cellsOf 3 = 1 := by kernel_rfl
section
variable {H : Type} {enc : TypeId × Value → H} {P : Program}
/-- An argument that is a slice of numbers. -/
theorem open_nums {r : Reach} {b0 : Nat} {t e : Nat} {w : World} {base : Nat} {spare : Nat → Bool} {held : Bool} {v : Value} {d : DataW H} {ps : List MemPlace}
    (ht : P.underlying t = some (.slice e)) (he : P.underlying e = some (.int .i64)) (hcE : P.cellsOf e = 1)
    (hval : Value.okWide P w r b0 t v) (hd : DataW.Trod enc P w base spare held t v d ps) : ∃ zs : List Int, Ints w v zs ∧ zs.length < 9223372036854775808 ∧ ∀ z ∈ zs, (Lit.int .i64 z).wf = true := by
  obtain ⟨a0, len, cap, rfl⟩ := okWide_slice ht hval
  obtain ⟨fuel, hf⟩ := hd
  rcases open_ints ht he hcE hf with ⟨hcs, _⟩ | ⟨a, len', cap', zs, hcs, _, hl, hm, hz, hx, hcell, hwz⟩
  · simp [Value.cells] at hcs
    obtain ⟨rfl, rfl, rfl⟩ := hcs
    exact ⟨[], Or.inl ⟨rfl, rfl⟩, by simp, fun z hz => by cases hz⟩
  · simp [Value.cells] at hcs
    obtain ⟨rfl, rfl, rfl⟩ := hcs
    have hok : w.has P r b0 a e cap := by
      unfold Value.okWide Cell.okWide Cell.ok at hval
      rw [ht] at hval
      exact hval.2.2
    obtain ⟨_, hsp, row, cells, hsh, _⟩ := hok
    have hlz : len ≤ zs.length := by rw [hz]; split <;> omega
    have hlen : (zs.take len).length = len := by simp; omega
    obtain ⟨ab, ao, asp⟩ := a
    cases hsp
    refine ⟨zs.take len, Or.inr ⟨ab, ao, cap, by rw [hlen], shape_lt hsh, fun j u hu => ?_⟩, by rw [hlen]; unfold maxLen at hm; omega, fun z hz => hwz z (List.mem_of_mem_take hz)⟩
    rw [List.getElem?_map] at hu
    cases hj : (zs.take len)[j]? with
    | none => rw [hj] at hu; cases hu
    | some x =>
      rw [hj] at hu
      cases hu
      have hjl : j < len := by have := (List.getElem?_eq_some_iff.1 hj).1; omega
      have hc := hcell j (by omega)
      rw [List.getElem?_take_of_lt hjl] at hj
      rw [List.getD_eq_getElem?_getD, hj] at hc
      simpa [Addr.add] using (show w.cell? ⟨ab, ao + j, none⟩ = _ by
        have e : Addr.add ⟨ab, ao, none⟩ j = ⟨ab, ao + j, none⟩ := by unfold Addr.add; by_cases h : j = 0 <;> simp [h]
        rw [← e]; exact hc)
end

set_option maxRecDepth 100000 in
theorem full_lifted (os : Os) (started : os.Started) (H : Type) (enc : TypeId × Value → H) :
    ReturnsInHanded {} Try.checked os 6 .any (Rows.simfsFullSpec.pre6 enc Try.prog Try.f6 Rows.simfsFullRow.domain false) (Rows.simfsFullSpec.post enc Try.prog Try.f6 false true false false) := by
  refine returnsInHanded_of_change (C := Try.checked) Try.own started (by kernel_rfl) Try.func6
    (ChangeSpec.witness6 (enc := enc) (C := Try.checked) false ⟨#[], #[.int .i64 0, .slice none 0 0], []⟩ 8 (by kernel_rfl) (by kernel_rfl) (by kernel_rfl) (by kernel_rfl)) ?_
  intro W base args ds gs before hval0 hW hcnd _
  have hval : ∀ (j : Nat) t v, Try.f6.params[j]? = some t → args[j]? = some v → Value.okWide Try.prog W .any base t v := hval0
  have hW' := hW
  obtain ⟨p, q, hA0, hV, hbe, hfz, hnd⟩ := hW
  have hA : DataW.TrodAll enc Try.prog W 0 (fun _ => true) true Try.f6.params.toList args.toList ds p := hA0
  rw [Try.params6] at hA hval
  obtain ⟨v0, v1, d0, d1, p0, p1, rfl, rfl, rfl, h0, h1⟩ := trodAll_two hA
  obtain ⟨n, rfl, _, _, _⟩ := open_int Try.underlying3 (hval 0 _ v0 rfl rfl) h0
  obtain ⟨zs, hb, hzl, _⟩ := open_nums Try.underlying31 Try.underlying3 intCells (hval 1 _ v1 rfl rfl) h1
  clear hA0 hval0 hfz hnd
  refine (fullLaw_any n v1 zs W hb hzl).mono fun e W' ⟨he, hb⟩ => ?_
  subst he
  obtain rfl : gs = [] := (trodVars_none hV).1
  exact ⟨_, rfl, law_post Try.laidOut hW' rfl (by rw [Try.params6]; decide +kernel) (tb := 4) rfl Try.underlying4 hb rfl⟩

theorem full_holds : Rows.SimfsFullSaid :=
  OpenClaim.holds_of_wide 6 Try.f6 rfl rfl rfl rfl rfl rfl rfl ⟨rfl, rfl, rfl, rfl, rfl⟩ rfl rfl rfl rfl rfl (by kernel_rfl) Try.func6 (by kernel_rfl)
    (of_decide_eq_true (by kernel_rfl)) (by unfold Func.isWrapper; first | (rw [if_pos (by decide +kernel)]; kernel_rfl) | (rw [if_neg (by decide +kernel)]; exact ⟨rfl, rfl⟩))
    (fun os started H enc _ => full_lifted os started H enc)
end Go.Proofs.Ytcnklondaihbmaa
