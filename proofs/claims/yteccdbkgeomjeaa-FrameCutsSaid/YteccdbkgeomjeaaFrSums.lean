/- FrameSums: the sum of any parts is the document's, bit by bit. For every list of parts; no condition. -/
import Derived.Test.YteccdbkgeomjeaaFrG
namespace Go.Proofs.Yteccdbkgeomjeaa
open Go.RowKit Go.WideShapes Go.ChangeShapes Go.ChangeAt

/-- Parts that came in are byte by byte. -/
structure PartsOk (w : World) (v : Value) (ps : List (List Int)) : Prop where
  parts : Parts w v ps
  len : ps.length < 9223372036854775808
  each : ∀ i, i < ps.length → (ps.getD i []).length < 9223372036854775808 ∧ Byt (ps.getD i [])
theorem part_le (ps : List (List Int)) (i : Nat) (hi : i < ps.length) : (ps.getD i []).length ≤ ps.flatten.length := by
  have h1 := flat_len_succ ps i hi
  have h2 := flat_take_le ps (i + 1)
  omega

set_option maxHeartbeats 4000000 in
theorem sums_any (v : Value) (ps : List (List Int)) (w : World) (hp : PartsOk w v ps) :
    Calls Try.prog 3 #[v] w fun e w' => e = .returned (.bool true) ∧ Below w.heap.size w w' := by
  obtain ⟨qa, cap, rfl, _⟩ := hp.parts.open
  have HP := Lib.hid hp
  clear hp
  go_enter Try.func3, Try.ntmps3
  have cJ := joined_any 3000 (by omega) _ ps w HP.out.parts HP.out.len (fun i hi => (HP.out.each i hi).1)
  by_cases hc : ps.length ≤ 50 ∧ ps.flatten.length ≤ 3000
  · have hR : joinR 3000 ps = .tuple #[.string (strOfNums ps.flatten), .bool true] := by unfold joinR; rw [if_pos hc]
    rw [hR] at cJ
    have CJ : Hid (Calls Try.prog 10 #[.slice qa ps.length cap, .int .i64 3000] w fun e w' => e = .returned (.tuple #[.string (strOfNums ps.flatten), .bool true]) ∧ w = w') := cJ
    have hby : Byt ps.flatten := Byt.flat fun i hi => (HP.out.each i hi).2
    have CR := Lib.hid (fun w => refSum_any ps.flatten hby (by omega) w)
    have CS := Lib.hid (fun (w' : World) (hb : Below w.heap.size w w') => sum_any _ ps w' (HP.out.parts.below hb) (by omega) (fun i hi => ⟨by have := part_le ps i hi; omega, (HP.out.each i hi).2⟩))
    clear cJ hR hby
    generalize strOfNums ps.flatten = S at *
    generalize sumN ps.flatten = N at *
    clear hc
    go_wp2_with fail
    refine CJ.out.mono ?_; rintro e w' ⟨rfl, rfl⟩
    go_wp2_with fail
    refine (awake_any _).mono ?_; rintro e w1 ⟨rfl, hb1⟩
    have HB1 := Lib.hid hb1
    clear hb1
    go_wp2_with fail
    refine (CS.out _ HB1.out).mono ?_; rintro e w2 ⟨rfl, hb2⟩
    have HB2 := Lib.hid (HB1.out.trans (hb2.mono HB1.out.size))
    clear hb2
    go_wp2_with fail
    refine (CR.out _).mono ?_; rintro e w3 ⟨rfl, rfl⟩
    go_wp2_with fail
    go_ret
    exact ⟨rfl, HB2.out⟩
  · have hR : joinR 3000 ps = .tuple #[.string ⟨#[]⟩, .bool false] := by unfold joinR; rw [if_neg hc]
    rw [hR] at cJ
    have CJ : Hid (Calls Try.prog 10 #[.slice qa ps.length cap, .int .i64 3000] w fun e w' => e = .returned (.tuple #[.string ⟨#[]⟩, .bool false]) ∧ w = w') := cJ
    clear cJ hR hc
    go_wp2_with fail
    refine CJ.out.mono ?_; rintro e w' ⟨rfl, rfl⟩
    go_wp2_with fail
    refine (awake_any _).mono ?_; rintro e w1 ⟨rfl, hb1⟩
    go_wp2_with fail
    refine (awake_any _).mono ?_; rintro e w2 ⟨rfl, hb2⟩
    go_wp2_with fail
    go_ret
    exact ⟨rfl, hb1.trans (hb2.mono hb1.size)⟩

set_option maxRecDepth 100000 in
theorem sums_lifted (os : Os) (started : os.Started) (H : Type) (enc : TypeId × Value → H) :
    ReturnsInHanded {} Try.checked os 3 .any (Rows.frameSumsSpec.pre6 enc Try.prog Try.f3 Rows.frameSumsRow.domain false) (Rows.frameSumsSpec.post enc Try.prog Try.f3 false true false false) := by
  refine returnsInHanded_of_change (C := Try.checked) Try.own started (by kernel_rfl) Try.func3
    (ChangeSpec.witness6 (enc := enc) (C := Try.checked) false ⟨#[], #[.slice none 0 0], []⟩ 8 (by kernel_rfl) (by kernel_rfl) (by kernel_rfl) (by kernel_rfl)) ?_
  intro W base args ds gs before hval0 hW hcnd _
  have hval : ∀ (j : Nat) t v, Try.f3.params[j]? = some t → args[j]? = some v → Value.okWide Try.prog W .any base t v := hval0
  have hW' := hW
  obtain ⟨p, q, hA0, hV, hbe, hfz, hnd⟩ := hW
  have hA : DataW.TrodAll enc Try.prog W 0 (fun _ => true) true Try.f3.params.toList args.toList ds p := hA0
  rw [Try.params3] at hA hval
  obtain ⟨v0, d0, rfl, rfl, h0⟩ := trodAll_one hA
  obtain ⟨zs, hb, hzl, hq⟩ := open_parts Try.underlying22 Try.underlying30 Try.underlying5 (by kernel_rfl) byteCells (hval 0 _ v0 rfl rfl) h0
  clear hA0 hval0 hfz hnd
  refine (sums_any v0 zs W ⟨hb, hzl, hq⟩).mono fun e W' ⟨he, hb⟩ => ?_
  subst he
  obtain rfl : gs = [] := (trodVars_none hV).1
  exact ⟨_, rfl, law_post Try.laidOut hW' rfl (by rw [Try.params3]; decide +kernel) (tb := 4) rfl Try.underlying4 hb rfl⟩

theorem sums_holds : Rows.FrameSumsSaid :=
  OpenClaim.holds_of_wide 3 Try.f3 rfl rfl rfl rfl rfl rfl rfl ⟨rfl, rfl, rfl, rfl, rfl⟩ rfl rfl rfl rfl rfl (by kernel_rfl) Try.func3 (by kernel_rfl)
    (of_decide_eq_true (by kernel_rfl)) (by unfold Func.isWrapper; first | (rw [if_pos (by decide +kernel)]; kernel_rfl) | (rw [if_neg (by decide +kernel)]; exact ⟨rfl, rfl⟩))
    (fun os started H enc _ => sums_lifted os started H enc)
end Go.Proofs.Yteccdbkgeomjeaa
