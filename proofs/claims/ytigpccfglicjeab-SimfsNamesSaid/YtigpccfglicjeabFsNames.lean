/- SimfsNames: any text is a name just as the document says. For every text; no condition. -/
import Derived.Test.YtigpccfglicjeabFsX
import Derived.Test.YtigpccfglicjeabFsO
namespace Go.Proofs.Ytigpccfglicjeab
open Go.RowKit Go.WideShapes Go.ChangeShapes Go.ChangeAt

set_option maxRecDepth 100000 in
set_option maxHeartbeats 8000000 in
theorem namesLaw_any (s : ByteArray) (w : World) : Calls Try.prog 5 #[.string s] w fun e w' => e = .returned (.bool true) ∧ Below w.heap.size w w' := by
  have kc := fun (w : World) (C : Array Value) (n c : Nat) => Lib.run_convert_bytes_const (P := Try.prog) w 37 5 C n c Try.underlying37 Try.underlying5
  go_enter Try.func5, Try.ntmps5
  go_wp2_with fail
  refine (new_own 10 (by omega) (by omega) w w (Below.refl _ _)).mono ?_; rintro e w1 ⟨g, rfl, hw1⟩
  have H1 := Lib.hid hw1
  clear hw1
  go_wp2_with fail
  refine (awake_any w1).mono ?_; rintro e w2 ⟨rfl, hb2⟩
  have H2 := Lib.hid (H1.out.below hb2)
  clear hb2 H1
  by_cases hl : 500 < s.size
  · have HE := Lib.hid H2.out.base
    go_wp2_with fail
    go_ret
    exact ⟨rfl, HE.out⟩
  have li : ¬ (500 < (s.size : Int)) := by omega
  cases hnm : nameB s
  · have HN := Lib.hid hnm
    clear hnm
    go_wp2_with fail
    refine (create_bad H2.out (by omega) (by omega) HN.out (by omega)).mono ?_; rintro e w3 ⟨rfl, hw3⟩
    have H3 := Lib.hid hw3
    clear hw3
    go_wp2_with fail
    refine (append_bad [1] H3.out (by omega) (by omega) HN.out (by omega) (by simp)).mono ?_; rintro e w4 ⟨rfl, hw4⟩
    have H4 := Lib.hid hw4
    clear hw4
    go_wp2_with fail
    refine (read_bad H4.out (by omega) (by omega) HN.out (by omega)).mono ?_; rintro e w5 ⟨v5, rfl, hw5⟩
    have H5 := Lib.hid hw5
    clear hw5
    go_wp2_with fail
    refine (rename_bad H5.out (by omega) (by omega) HN.out (by omega)).mono ?_; rintro e w6 ⟨rfl, hw6⟩
    have H6 := Lib.hid hw6
    clear hw6
    go_wp2_with fail
    refine (remove_bad H6.out (by omega) (by omega) HN.out (by omega)).mono ?_; rintro e w7 ⟨rfl, hw7⟩
    have H7 := Lib.hid hw7
    clear hw7
    have hgd := good_any s w7 (by omega)
    rw [HN.out] at hgd
    have HGD := Lib.hid hgd
    clear hgd
    go_wp2_with fail
    refine HGD.out.mono ?_; rintro e w8 ⟨rfl, rfl⟩
    go_wp2_with fail
    refine (steps_own H7.out).mono ?_; rintro e w9 ⟨rfl, rfl⟩
    have HE := Lib.hid H7.out.base
    rw [show (newA 10).count = 0 from rfl]
    go_wp2_with fail
    go_ret
    exact ⟨rfl, HE.out⟩
  · have HN := Lib.hid hnm
    clear hnm
    go_wp2_with fail
    refine (create1_own H2.out (by omega) (by omega) HN.out).mono ?_; rintro e w3 ⟨b, A3, rfl, hw3, hO3, _, _⟩
    have H3 := Lib.hid hw3
    have O3 := Lib.hid hO3
    clear hw3 hO3
    go_wp2_with fail
    refine (append_own_new [1] H3.out O3.out (by omega) (by simp) (by simp)).mono ?_; rintro e w4 ⟨A4, rfl, hw4, hO4, _, _⟩
    have H4 := Lib.hid hw4
    have O4 := Lib.hid hO4
    clear hw4 hO4
    go_wp2_with fail
    refine (read_own H4.out O4.out).mono ?_; rintro e w5 ⟨v5, rfl, _, _, hw5⟩
    have H5 := Lib.hid hw5
    clear hw5
    go_wp2_with fail
    refine (rename_own_self H5.out O4.out (by omega)).mono ?_; rintro e w6 ⟨A6, rfl, hw6, hO6⟩
    have H6 := Lib.hid hw6
    have O6 := Lib.hid hO6
    clear hw6 hO6
    go_wp2_with fail
    refine (remove_own H6.out O6.out (by omega)).mono ?_; rintro e w7 ⟨A7, rfl, hw7, hn7⟩
    have H7 := Lib.hid hw7
    have N7 := Lib.hid hn7
    clear hw7 hn7
    have hgd := good_any s w7 (by omega)
    rw [HN.out] at hgd
    have HGD := Lib.hid hgd
    clear hgd
    go_wp2_with fail
    refine HGD.out.mono ?_; rintro e w8 ⟨rfl, rfl⟩
    go_wp2_with fail
    refine (len_own H7.out (by rw [N7.out, show Maps.size (.map []) = 0 from rfl]; omega) 0 (by rw [N7.out, none_names]; rfl)).mono ?_; rintro e w9 ⟨la, lc, rfl, _, hw9⟩
    have HE := Lib.hid hw9.base
    clear hw9
    go_wp2_with fail
    go_ret
    exact ⟨rfl, HE.out⟩

set_option maxRecDepth 100000 in
theorem names_lifted (os : Os) (started : os.Started) (H : Type) (enc : TypeId × Value → H) :
    ReturnsInHanded {} Try.checked os 5 .any (Rows.simfsNamesSpec.pre6 enc Try.prog Try.f5 Rows.simfsNamesRow.domain false) (Rows.simfsNamesSpec.post enc Try.prog Try.f5 false true false false) := by
  refine returnsInHanded_of_change (C := Try.checked) Try.own started (by kernel_rfl) Try.func5
    (ChangeSpec.witness6 (enc := enc) (C := Try.checked) false ⟨#[], #[.string ⟨#[]⟩], []⟩ 8 (by kernel_rfl) (by kernel_rfl) (by kernel_rfl) (by kernel_rfl)) ?_
  intro W base args ds gs before hval0 hW hcnd _
  have hval : ∀ (j : Nat) t v, Try.f5.params[j]? = some t → args[j]? = some v → Value.okWide Try.prog W .any base t v := hval0
  have hW' := hW
  obtain ⟨p, q, hA0, hV, hbe, hfz, hnd⟩ := hW
  have hA : DataW.TrodAll enc Try.prog W 0 (fun _ => true) true Try.f5.params.toList args.toList ds p := hA0
  rw [Try.params5] at hA hval
  obtain ⟨v0, d0, rfl, rfl, h0⟩ := trodAll_one hA
  obtain ⟨s, rfl, _, _, _⟩ := Go.ChangeMaps.open_string Try.underlying9 (hval 0 _ v0 rfl rfl) h0
  clear hA0 hval0 hfz hnd
  refine (namesLaw_any s W).mono fun e W' ⟨he, hb⟩ => ?_
  subst he
  obtain rfl : gs = [] := (trodVars_none hV).1
  exact ⟨_, rfl, law_post Try.laidOut hW' rfl (by rw [Try.params5]; decide +kernel) (tb := 4) rfl Try.underlying4 hb rfl⟩

theorem names_holds : Rows.SimfsNamesSaid :=
  OpenClaim.holds_of_wide 5 Try.f5 rfl rfl rfl rfl rfl rfl rfl ⟨rfl, rfl, rfl, rfl, rfl⟩ rfl rfl rfl rfl rfl (by kernel_rfl) Try.func5 (by kernel_rfl)
    (of_decide_eq_true (by kernel_rfl)) (by unfold Func.isWrapper; first | (rw [if_pos (by decide +kernel)]; kernel_rfl) | (rw [if_neg (by decide +kernel)]; exact ⟨rfl, rfl⟩))
    (fun os started H enc _ => names_lifted os started H enc)
end Go.Proofs.Ytigpccfglicjeab
