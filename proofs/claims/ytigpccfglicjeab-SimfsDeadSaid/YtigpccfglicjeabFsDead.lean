/- SimfsDead: so many steps are done as it was armed with, and not one more; reading is done still. For every number and slice of bytes; no condition. -/
import Derived.Test.YtigpccfglicjeabFsY
import Derived.Test.YtigpccfglicjeabFsOb
namespace Go.Proofs.Ytigpccfglicjeab
open Go.RowKit Go.WideShapes Go.ChangeShapes Go.ChangeAt

theorem mod_nat (n : Int) : ∃ N : Nat, wrap64 ((IntKind.u64.wrap n).tmod 40) = N ∧ N < 40 := by
  have h0 : 0 ≤ IntKind.u64.wrap n := by unfold IntKind.wrap; simp [IntKind.signed, IntKind.bits]; omega
  rw [Int.tmod_eq_emod_of_nonneg h0]
  refine ⟨(IntKind.u64.wrap n % 40).toNat, ?_, by omega⟩
  have h1 : wrap64 (IntKind.u64.wrap n % 40) = IntKind.u64.wrap n % 40 := by unfold wrap64; omega
  rw [h1]; omega
section
variable {w0 w : World} {g : Nat} {A : FsA} {b N i : Nat}
theorem Armed.turn {A' : FsA} {c : Int} (h : Armed A' c b N (min i N)) : c = (if i < N then 0 else 22) ∧ Arm1 A' b N (min (i + 1) N) := by
  by_cases hi : i < N
  · obtain ⟨h1, h2⟩ := h.1 (by omega)
    rw [show min i N + 1 = min (i + 1) N by omega] at h2
    exact ⟨by rw [if_pos hi]; exact h1, h2⟩
  · obtain ⟨h1, h2⟩ := h.2 (by omega)
    have e : min (i + 1) N = N := by omega
    exact ⟨by rw [if_neg hi]; exact h1, by rw [e]; exact h2⟩
theorem dead_append {k1 k2 : Nat} (h : Own w0 w g A) (hA : Arm1 A b N (min i N)) (hN : N < 40) :
    Calls Try.prog 16 #[.pointer (some ⟨g, 0, none⟩), .string nA, .slice (some ⟨w.heap.size, 0, none⟩) 1 1] (w.alloc (.cells (([7] : List Int).map (Value.int .u8)).toArray 5 (k1, k2))) fun e w' => ∃ A', e = .returned (.int .i64 (if i < N then 0 else 22)) ∧ Own w0 w' g A' ∧ Arm1 A' b N (min (i + 1) N) := by
  refine (append_gen_new nA [7] h hA.inv (by omega) (by decide) (by simp)).mono fun e w' ⟨he, hF⟩ => ?_
  obtain ⟨h1, h2⟩ := (hA.doAppend (by omega)).turn
  exact ⟨_, by rw [he, h1], hF, h2⟩
theorem dead_sync (h : Own w0 w g A) (hA : Arm1 A b N (min i N)) (hN : N < 40) :
    Calls Try.prog 17 #[.pointer (some ⟨g, 0, none⟩), .string nA] w fun e w' => ∃ A', e = .returned (.int .i64 (if i < N then 0 else 22)) ∧ Own w0 w' g A' ∧ Arm1 A' b N (min (i + 1) N) := by
  refine (sync_gen nA h hA.inv (by omega) (by decide)).mono fun e w' ⟨he, hF⟩ => ?_
  obtain ⟨h1, h2⟩ := (hA.doSync (by omega) (by omega)).turn
  exact ⟨_, by rw [he, h1], hF, h2⟩
theorem dead_dir (h : Own w0 w g A) (hA : Arm1 A b N (min i N)) (hN : N < 40) :
    Calls Try.prog 18 #[.pointer (some ⟨g, 0, none⟩)] w fun e w' => ∃ A', e = .returned (.int .i64 (if i < N then 0 else 22)) ∧ Own w0 w' g A' ∧ Arm1 A' b N (min (i + 1) N) := by
  refine (dir_gen h hA.inv (by omega)).mono fun e w' ⟨he, hF⟩ => ?_
  obtain ⟨h1, h2⟩ := hA.doDir.turn
  exact ⟨_, by rw [he, h1], hF, h2⟩
theorem Arm1.done (h : Arm1 A b N N) (f : FsA → FsA) : doneA A f = (A, 22) := by unfold doneA; rw [h.dead]; rfl
def nB : ByteArray := ⟨#[98]⟩
theorem nameB_b : nameB nB = true := by decide +kernel
theorem b_not_a : nB ≠ nA := by decide
theorem end_read (h : Own w0 w g A) (hA : Arm1 A b N N) :
    Calls Try.prog 21 #[.pointer (some ⟨g, 0, none⟩), .string nA] w fun e w' => ∃ v, e = .returned (.tuple #[v, .int .i64 0]) ∧ Own w0 w' g A := by
  obtain ⟨f, hf, _⟩ := hA.file
  refine (read_gen nA h hA.inv (by decide)).mono fun e w' ⟨v, he, _, _, hO⟩ => ⟨v, ?_, hO⟩
  rw [he, show readA A nA = (f.data, 0) by unfold readA; rw [findA_some nameA hA.get]; simp [hf]]
theorem end_arm (h : Own w0 w g A) (hA : Arm1 A b N N) :
    Calls Try.prog 27 #[.pointer (some ⟨g, 0, none⟩), .int .i64 3] w fun e w' => e = .returned (.int .i64 22) ∧ Own w0 w' g A := by
  have e1 : armA A 3 = (A, 22) := by
    unfold armA; rw [if_neg (by omega), if_pos (by unfold deadB; rw [hA.armed, hA.left]; simp)]
  refine (arm_gen 3 h).mono fun e w' ⟨he, hO⟩ => ?_
  rw [e1] at he hO
  exact ⟨he, hO⟩
theorem end_create (h : Own w0 w g A) (hA : Arm1 A b N N) (hN : N < 40) :
    Calls Try.prog 15 #[.pointer (some ⟨g, 0, none⟩), .string nB] w fun e w' => e = .returned (.int .i64 22) ∧ Own w0 w' g A := by
  have e1 : ∀ b', createA A nB b' = (A, 22) := fun b' => by
    unfold createA
    rw [if_pos nameB_b, hA.now]
    rw [show dget (oneD nA b) nB = none by
      rw [← one_put, dget_put_other b_not_a]; rfl]
    rw [if_neg (by simp), if_neg (by rw [show Maps.size (oneD nA b) = 1 from rfl]; omega), hA.dead, if_neg (by simp)]
  refine (create_gen nB h hA.inv (by omega) (by decide)).mono fun e w' ⟨b', _, he, hO⟩ => ?_
  rw [e1] at he hO
  exact ⟨he, hO⟩
theorem end_rename (h : Own w0 w g A) (hA : Arm1 A b N N) (hN : N < 40) :
    Calls Try.prog 19 #[.pointer (some ⟨g, 0, none⟩), .string nA, .string nB] w fun e w' => e = .returned (.int .i64 22) ∧ Own w0 w' g A := by
  have e1 : renameA A nA nB = (A, 22) := by
    unfold renameA
    rw [if_pos ⟨nameA, nameB_b⟩, if_neg (by rw [hA.get]; simp), hA.done]
  refine (rename_gen nA nB h hA.inv (by omega) (by decide) (by decide)).mono fun e w' ⟨he, hO⟩ => ?_
  rw [e1] at he hO
  exact ⟨he, hO⟩
theorem end_remove (h : Own w0 w g A) (hA : Arm1 A b N N) (hN : N < 40) :
    Calls Try.prog 22 #[.pointer (some ⟨g, 0, none⟩), .string nA] w fun e w' => e = .returned (.int .i64 22) ∧ Own w0 w' g A := by
  have e1 : removeA A nA = (A, 22) := by
    unfold removeA
    rw [findA_some nameA hA.get, if_pos rfl, hA.done]
  refine (remove_gen nA h hA.inv (by omega) (by decide)).mono fun e w' ⟨he, hO⟩ => ?_
  rw [e1] at he hO
  exact ⟨he, hO⟩
end
set_option maxRecDepth 100000 in
set_option maxHeartbeats 8000000 in
theorem deadLaw_any (n : Int) (v : Value) (p : List Int) (w : World) (hp : Bytes w v p) (hpl : p.length < 9223372036854775808) (hpz : ∀ z ∈ p, 0 ≤ z ∧ z ≤ 255) :
    Calls Try.prog 8 #[.int .i64 n, v] w fun e w' => e = .returned (.bool true) ∧ Below w.heap.size w w' := by
  have kc := fun (w : World) (C : Array Value) (n c : Nat) => Lib.run_convert_bytes_const (P := Try.prog) w 37 5 C n c Try.underlying37 Try.underlying5
  obtain ⟨va, vc, rfl⟩ := hp.slice
  have HP := Lib.hid hp
  clear hp
  go_enter Try.func8, Try.ntmps8
  go_wp2_with fail
  refine (awake_any w).mono ?_; rintro e w1 ⟨rfl, hb1⟩
  have HB1 := Lib.hid hb1
  clear hb1
  go_wp2_with fail
  obtain ⟨N, hN, hN40⟩ := mod_nat n
  rw [hN]
  generalize (IntKind.u64.wrap n).tmod 40 = nu at *
  clear hN
  refine (new_own 1000 (by omega) (by omega) w w1 HB1.out).mono ?_; rintro e w2 ⟨g, rfl, hw2⟩
  have H2 := Lib.hid hw2
  clear hw2 HB1
  go_wp2_with fail
  refine (create1_cnt (s := nA) H2.out (by omega) (by omega) nameA).mono ?_; rintro e w3 ⟨b, A3, rfl, hw3, hO3, hc3⟩
  obtain ⟨hr3, hA3⟩ := Arm1.start (N := N) (n := 0) hO3 hc3 hN40
  have H3 := Lib.hid hw3
  have A3' := Lib.hid hA3
  have R3 := Lib.hid hr3
  clear hw3 hO3 hc3 hr3 hA3
  go_wp2_with fail
  refine (arm_gen (N : Int) H3.out).mono ?_; rw [R3.out]; rintro e w4 ⟨rfl, hw4⟩
  have H4 := Lib.hid hw4
  clear hw4 R3
  have lN : (N : Int) < 40 := by omega
  go_wp2_with fail
  generalize ({ A3 with armed := true, left := (N : Int) } : FsA) = A4 at *
  have HPW := Lib.hid (HP.out.below H4.out.base)
  have HPZ := Lib.hid hpz
  clear hpz H2 H3
  go_loopw [6, 7, 8] (fun _ s7 _ wr => ∃ (i : Nat) (A : FsA), i ≤ N + 3 ∧ s7 = .int .i64 i ∧ Own w wr g A ∧ Arm1 A b N (min i N))
    (fun _ s7 _ _ => 100 - (intOf s7).toNat)
  case atStart => exact ⟨0, A4, by omega, rfl, H4.out, by rw [Nat.zero_min]; exact A3'.out⟩
  case round =>
    obtain ⟨i, A, hi, rfl, hO, hA⟩ := hrel
    have HO := Lib.hid hO
    have HA := Lib.hid hA
    clear hO hA
    by_cases hlt : i < N + 3
    · have li : (i : Int) < (N : Int) + 3 := by omega
      by_cases hk : i < p.length
      · have lk : (i : Int) < p.length := by omega
        obtain ⟨x, hx⟩ : ∃ x, p.getD i 0 = x := ⟨_, rfl⟩
        have hpi : p[i]? = some x := by rw [← hx, List.getD_eq_getElem?_getD, List.getElem?_eq_getElem hk]; rfl
        have hx0 := HPZ.out x (List.mem_of_getElem? hpi)
        have hq : x.tmod 3 = 0 ∨ x.tmod 3 = 1 ∨ x.tmod 3 = 2 := by rw [Int.tmod_eq_emod_of_nonneg hx0.1]; omega
        have hB := HP.out.below HO.out.base
        rcases hB with ⟨hv, h0⟩ | ⟨pb, po, cap, hv, _, _, hr⟩
        · rw [h0] at hk; simp at hk
        · obtain ⟨rfl, rfl⟩ : va = some ⟨pb, po, none⟩ ∧ vc = cap := by injection hv with h1 h2 h3; exact ⟨h1, h3⟩
          have c := hr i (.int .u8 x) (by rw [List.getElem?_map, hpi]; rfl)
          clear hr hv hpi hx
          rcases hq with hq | hq | hq
          · go_wp2_with fail
            refine (dead_append HO.out HA.out hN40).mono ?_; rintro e w5 ⟨A5, rfl, hw5, hA5⟩
            have H5 := Lib.hid hw5
            have AA5 := Lib.hid hA5
            clear hw5 hA5
            by_cases hiN : i < N
            · rw [if_pos hiN]
              have liN : (i : Int) < N := by omega
              go_wp2_with fail
              go_roundw
              case rel => exact ⟨i + 1, A5, by omega, by go_num, H5.out, AA5.out⟩
              case measure => simp [intOf]; omega
            · rw [if_neg hiN]
              have liN : ¬ ((i : Int) < N) := by omega
              go_wp2_with fail
              go_roundw
              case rel => exact ⟨i + 1, A5, by omega, by go_num, H5.out, AA5.out⟩
              case measure => simp [intOf]; omega
          · go_wp2_with fail
            refine (dead_sync HO.out HA.out hN40).mono ?_; rintro e w5 ⟨A5, rfl, hw5, hA5⟩
            have H5 := Lib.hid hw5
            have AA5 := Lib.hid hA5
            clear hw5 hA5
            by_cases hiN : i < N
            · rw [if_pos hiN]
              have liN : (i : Int) < N := by omega
              go_wp2_with fail
              go_roundw
              case rel => exact ⟨i + 1, A5, by omega, by go_num, H5.out, AA5.out⟩
              case measure => simp [intOf]; omega
            · rw [if_neg hiN]
              have liN : ¬ ((i : Int) < N) := by omega
              go_wp2_with fail
              go_roundw
              case rel => exact ⟨i + 1, A5, by omega, by go_num, H5.out, AA5.out⟩
              case measure => simp [intOf]; omega
          · go_wp2_with fail
            refine (dead_dir HO.out HA.out hN40).mono ?_; rintro e w5 ⟨A5, rfl, hw5, hA5⟩
            have H5 := Lib.hid hw5
            have AA5 := Lib.hid hA5
            clear hw5 hA5
            by_cases hiN : i < N
            · rw [if_pos hiN]
              have liN : (i : Int) < N := by omega
              go_wp2_with fail
              go_roundw
              case rel => exact ⟨i + 1, A5, by omega, by go_num, H5.out, AA5.out⟩
              case measure => simp [intOf]; omega
            · rw [if_neg hiN]
              have liN : ¬ ((i : Int) < N) := by omega
              go_wp2_with fail
              go_roundw
              case rel => exact ⟨i + 1, A5, by omega, by go_num, H5.out, AA5.out⟩
              case measure => simp [intOf]; omega
      · have lk : ¬ ((i : Int) < p.length) := by omega
        go_wp2_with fail
        refine (dead_append HO.out HA.out hN40).mono ?_; rintro e w5 ⟨A5, rfl, hw5, hA5⟩
        have H5 := Lib.hid hw5
        have AA5 := Lib.hid hA5
        clear hw5 hA5
        by_cases hiN : i < N
        · rw [if_pos hiN]
          have liN : (i : Int) < N := by omega
          go_wp2_with fail
          go_roundw
          case rel => exact ⟨i + 1, A5, by omega, by go_num, H5.out, AA5.out⟩
          case measure => simp [intOf]; omega
        · rw [if_neg hiN]
          have liN : ¬ ((i : Int) < N) := by omega
          go_wp2_with fail
          go_roundw
          case rel => exact ⟨i + 1, A5, by omega, by go_num, H5.out, AA5.out⟩
          case measure => simp [intOf]; omega
    · have li : ¬ ((i : Int) < (N : Int) + 3) := by omega
      have hmin : min i N = N := by omega
      rw [hmin] at HA
      have HC : Hid (A.count = 1 + (N : Int)) := HA.out.count
      clear hmin hlt hi
      go_wp2_with fail
      refine (end_read HO.out HA.out).mono ?_; rintro e w5 ⟨v5, rfl, hw5⟩
      have H5 := Lib.hid hw5
      clear hw5 HO
      go_wp2_with fail
      refine (steps_own H5.out).mono ?_; rintro e w6 ⟨rfl, rfl⟩
      rw [HC.out]
      have e1 : IntKind.i64.wrap ((N : Int) + 1) = 1 + N := by rw [IntWalk.i64_in _ (by omega)]; omega
      go_wp2_with fail
      refine (end_arm H5.out HA.out).mono ?_; rintro e w7 ⟨rfl, hw7⟩
      have H7 := Lib.hid hw7
      clear hw7 H5
      go_wp2_with fail
      refine (end_create H7.out HA.out hN40).mono ?_; rintro e w8 ⟨rfl, hw8⟩
      have H8 := Lib.hid hw8
      clear hw8 H7
      go_wp2_with fail
      refine (end_rename H8.out HA.out hN40).mono ?_; rintro e w9 ⟨rfl, hw9⟩
      have H9 := Lib.hid hw9
      clear hw9 H8
      go_wp2_with fail
      refine (end_remove H9.out HA.out hN40).mono ?_; rintro e w10 ⟨rfl, hw10⟩
      have HE := Lib.hid hw10.base
      clear hw10 H9
      go_wp2_with fail
      go_ret
      exact ⟨rfl, HE.out⟩

set_option maxRecDepth 100000 in
theorem dead_lifted (os : Os) (started : os.Started) (H : Type) (enc : TypeId × Value → H) :
    ReturnsInHanded {} Try.checked os 8 .any (Rows.simfsDeadSpec.pre6 enc Try.prog Try.f8 Rows.simfsDeadRow.domain false) (Rows.simfsDeadSpec.post enc Try.prog Try.f8 false true false false) := by
  refine returnsInHanded_of_change (C := Try.checked) Try.own started (by kernel_rfl) Try.func8
    (ChangeSpec.witness6 (enc := enc) (C := Try.checked) false ⟨#[], #[.int .i64 0, .slice none 0 0], []⟩ 8 (by kernel_rfl) (by kernel_rfl) (by kernel_rfl) (by kernel_rfl)) ?_
  intro W base args ds gs before hval0 hW hcnd _
  have hval : ∀ (j : Nat) t v, Try.f8.params[j]? = some t → args[j]? = some v → Value.okWide Try.prog W .any base t v := hval0
  have hW' := hW
  obtain ⟨p, q, hA0, hV, hbe, hfz, hnd⟩ := hW
  have hA : DataW.TrodAll enc Try.prog W 0 (fun _ => true) true Try.f8.params.toList args.toList ds p := hA0
  rw [Try.params8] at hA hval
  obtain ⟨v0, v1, d0, d1, p0, p1, rfl, rfl, rfl, h0, h1⟩ := trodAll_two hA
  obtain ⟨n, rfl, _, _, _⟩ := open_int Try.underlying3 (hval 0 _ v0 rfl rfl) h0
  obtain ⟨zs, hb, hzl, hzw⟩ := open_bytes Try.underlying37 Try.underlying5 byteCells (hval 1 _ v1 rfl rfl) h1
  clear hA0 hval0 hfz hnd
  refine (deadLaw_any n v1 zs W hb hzl (fun z hz => wf_u8 (hzw z hz))).mono fun e W' ⟨he, hb⟩ => ?_
  subst he
  obtain rfl : gs = [] := (trodVars_none hV).1
  exact ⟨_, rfl, law_post Try.laidOut hW' rfl (by rw [Try.params8]; decide +kernel) (tb := 4) rfl Try.underlying4 hb rfl⟩

theorem dead_holds : Rows.SimfsDeadSaid :=
  OpenClaim.holds_of_wide 8 Try.f8 rfl rfl rfl rfl rfl rfl rfl ⟨rfl, rfl, rfl, rfl, rfl⟩ rfl rfl rfl rfl rfl (by kernel_rfl) Try.func8 (by kernel_rfl)
    (of_decide_eq_true (by kernel_rfl)) (by unfold Func.isWrapper; first | (rw [if_pos (by decide +kernel)]; kernel_rfl) | (rw [if_neg (by decide +kernel)]; exact ⟨rfl, rfl⟩))
    (fun os started H enc _ => dead_lifted os started H enc)
end Go.Proofs.Ytigpccfglicjeab
