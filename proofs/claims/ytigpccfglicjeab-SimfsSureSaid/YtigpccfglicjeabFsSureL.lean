/- SimfsSure, lifted to the statement: what was synced, and whose name was sure, outlives a crash. For all slices of bytes and pairs of numbers; no condition. -/
import Derived.Test.YtigpccfglicjeabFsSure
namespace Go.Proofs.Ytigpccfglicjeab
open Go.RowKit Go.WideShapes Go.ChangeShapes Go.ChangeAt

theorem two_of : ∀ zs : List Int, zs.length = 2 → ∃ x y, zs = [x, y]
  | [x, y], _ => ⟨x, y, rfl⟩

set_option maxRecDepth 100000 in
theorem sure_lifted (os : Os) (started : os.Started) (H : Type) (enc : TypeId × Value → H) :
    ReturnsInHanded {} Try.checked os 4 .any (Rows.simfsSureSpec.pre6 enc Try.prog Try.f4 Rows.simfsSureRow.domain false) (Rows.simfsSureSpec.post enc Try.prog Try.f4 false true false false) := by
  refine returnsInHanded_of_change (C := Try.checked) Try.own started (by kernel_rfl) Try.func4
    (ChangeSpec.witness6 (enc := enc) (C := Try.checked) false ⟨#[], #[.slice none 0 0, .slice none 0 0, .agg #[.int .i64 0, .int .i64 0]], []⟩ 8 (by kernel_rfl) (by kernel_rfl) (by kernel_rfl) (by kernel_rfl)) ?_
  intro W base args ds gs before hval0 hW hcnd _
  have hval : ∀ (j : Nat) t v, Try.f4.params[j]? = some t → args[j]? = some v → Value.okWide Try.prog W .any base t v := hval0
  have hW' := hW
  obtain ⟨p, q, hA0, hV, hbe, hfz, hnd⟩ := hW
  have hA : DataW.TrodAll enc Try.prog W 0 (fun _ => true) true Try.f4.params.toList args.toList ds p := hA0
  rw [Try.params4] at hA hval
  obtain ⟨v0, v1, v2, d0, d1, d2, p0, p1, p2, rfl, rfl, rfl, h0, h1, h2⟩ := trodAll_three hA
  obtain ⟨z0, hb0, hl0, _⟩ := open_bytes Try.underlying37 Try.underlying5 byteCells (hval 0 _ v0 rfl rfl) h0
  obtain ⟨z1, hb1, hl1, _⟩ := open_bytes Try.underlying37 Try.underlying5 byteCells (hval 1 _ v1 rfl rfl) h1
  obtain ⟨zs, rfl, hzl, _⟩ := open_array Try.underlying44 Try.underlying3 (by kernel_rfl) (by kernel_rfl) (hval 2 _ v2 rfl rfl) h2
  obtain ⟨x, y, rfl⟩ := two_of zs hzl
  clear hA0 hval0 hfz hnd
  refine (sureLaw_any v0 v1 z0 z1 x y W hb0 hb1 hl0 hl1).mono fun e W' ⟨he, hb⟩ => ?_
  subst he
  obtain rfl : gs = [] := (trodVars_none hV).1
  exact ⟨_, rfl, law_post Try.laidOut hW' rfl (by rw [Try.params4]; decide +kernel) (tb := 4) rfl Try.underlying4 hb rfl⟩

theorem sure_holds : Rows.SimfsSureSaid :=
  OpenClaim.holds_of_wide 4 Try.f4 rfl rfl rfl rfl rfl rfl rfl ⟨rfl, rfl, rfl, rfl, rfl⟩ rfl rfl rfl rfl rfl (by kernel_rfl) Try.func4 (by kernel_rfl)
    (of_decide_eq_true (by kernel_rfl)) (by unfold Func.isWrapper; first | (rw [if_pos (by decide +kernel)]; kernel_rfl) | (rw [if_neg (by decide +kernel)]; exact ⟨rfl, rfl⟩))
    (fun os started H enc _ => sure_lifted os started H enc)
end Go.Proofs.Ytigpccfglicjeab
