/- SimfsSwaps, lifted to the statement: a synced file that is renamed over another one is behind a crash there as that one, or the elder one is, whole; behind SyncDir it is. For all slices of bytes and numbers; no condition. -/
import Derived.Test.YtcnklondaihbmaaFsSwaps
namespace Go.Proofs.Ytcnklondaihbmaa
open Go.RowKit Go.WideShapes Go.ChangeShapes Go.ChangeAt

set_option maxRecDepth 100000 in
theorem swaps_lifted (os : Os) (started : os.Started) (H : Type) (enc : TypeId × Value → H) :
    ReturnsInHanded {} Try.checked os 9 .any (Rows.simfsSwapsSpec.pre6 enc Try.prog Try.f9 Rows.simfsSwapsRow.domain false) (Rows.simfsSwapsSpec.post enc Try.prog Try.f9 false true false false) := by
  refine returnsInHanded_of_change (C := Try.checked) Try.own started (by kernel_rfl) Try.func9
    (ChangeSpec.witness6 (enc := enc) (C := Try.checked) false ⟨#[], #[.slice none 0 0, .slice none 0 0, .int .i64 0], []⟩ 8 (by kernel_rfl) (by kernel_rfl) (by kernel_rfl) (by kernel_rfl)) ?_
  intro W base args ds gs before hval0 hW hcnd _
  have hval : ∀ (j : Nat) t v, Try.f9.params[j]? = some t → args[j]? = some v → Value.okWide Try.prog W .any base t v := hval0
  have hW' := hW
  obtain ⟨p, q, hA0, hV, hbe, hfz, hnd⟩ := hW
  have hA : DataW.TrodAll enc Try.prog W 0 (fun _ => true) true Try.f9.params.toList args.toList ds p := hA0
  rw [Try.params9] at hA hval
  obtain ⟨v0, v1, v2, d0, d1, d2, p0, p1, p2, rfl, rfl, rfl, h0, h1, h2⟩ := trodAll_three hA
  obtain ⟨z0, hb0, hl0, _⟩ := open_bytes Try.underlying37 Try.underlying5 byteCells (hval 0 _ v0 rfl rfl) h0
  obtain ⟨z1, hb1, hl1, _⟩ := open_bytes Try.underlying37 Try.underlying5 byteCells (hval 1 _ v1 rfl rfl) h1
  obtain ⟨x, rfl, _, _, _⟩ := open_int Try.underlying3 (hval 2 _ v2 rfl rfl) h2
  clear hA0 hval0 hfz hnd
  refine (swapsLaw_any v0 v1 z0 z1 x W hb0 hb1 hl0 hl1).mono fun e W' ⟨he, hb⟩ => ?_
  subst he
  obtain rfl : gs = [] := (trodVars_none hV).1
  exact ⟨_, rfl, law_post Try.laidOut hW' rfl (by rw [Try.params9]; decide +kernel) (tb := 4) rfl Try.underlying4 hb rfl⟩

theorem swaps_holds : Rows.SimfsSwapsSaid :=
  OpenClaim.holds_of_wide 9 Try.f9 rfl rfl rfl rfl rfl rfl rfl ⟨rfl, rfl, rfl, rfl, rfl⟩ rfl rfl rfl rfl rfl (by kernel_rfl) Try.func9 (by kernel_rfl)
    (of_decide_eq_true (by kernel_rfl)) (by unfold Func.isWrapper; first | (rw [if_pos (by decide +kernel)]; kernel_rfl) | (rw [if_neg (by decide +kernel)]; exact ⟨rfl, rfl⟩))
    (fun os started H enc _ => swaps_lifted os started H enc)
end Go.Proofs.Ytcnklondaihbmaa
