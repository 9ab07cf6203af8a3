/- SimfsSure: what was synced, and whose name was sure, outlives a crash. For all slices of bytes and pairs of numbers; no condition. -/
import Derived.Test.YtigpccfglicjeabFsS
import Derived.Test.YtigpccfglicjeabFsOb
namespace Go.Proofs.Ytigpccfglicjeab
open Go.RowKit Go.WideShapes Go.ChangeShapes Go.ChangeAt

/-- What is left of the file that was synced. -/
theorem kept_bytes (p1 p2 : List Int) (t : Int) : ∃ k : Nat, leftN ⟨0, [] ++ p1 ++ p2, ([] ++ p1 : List Int).length⟩ t = k ∧ p1.length ≤ k ∧ k ≤ p1.length + p2.length ∧ (k : Int) - p1.length = max 0 (min t p2.length) := by
  refine ⟨_, rfl, ?_⟩
  unfold leftN withinOf
  simp only [List.nil_append, List.length_append]
  omega
theorem str_two (p1 p2 : List Int) : strOfNums p1 ++ strOfNums p2 = strOfNums (p1 ++ p2) := by
  apply ByteArray.ext
  simp [strOfNums]
theorem str_take (p : List Int) (k : Nat) : (strOfNums p).extract 0 k = strOfNums (p.take k) := by
  apply ByteArray.ext
  simp [strOfNums]
set_option maxRecDepth 100000 in
set_option maxHeartbeats 8000000 in
theorem sureLaw_any (v1 v2 : Value) (p1 p2 : List Int) (d t : Int) (w : World) (hp1 : Bytes w v1 p1) (hp2 : Bytes w v2 p2) (hl1 : p1.length < 9223372036854775808) (hl2 : p2.length < 9223372036854775808) :
    Calls Try.prog 4 #[v1, v2, .agg #[.int .i64 d, .int .i64 t]] w fun e w' => e = .returned (.bool true) ∧ Below w.heap.size w w' := by
  have hv1 : ∀ x, v1.ownBlock = some x → x < w.heap.size := by
    rcases hp1 with ⟨rfl, _⟩ | ⟨pb, po, cap, rfl, _, h, _⟩
    · intro x hx; cases hx
    · intro x hx; cases hx; exact h
  have hv2 : ∀ x, v2.ownBlock = some x → x < w.heap.size := by
    rcases hp2 with ⟨rfl, _⟩ | ⟨pb, po, cap, rfl, _, h, _⟩
    · intro x hx; cases hx
    · intro x hx; cases hx; exact h
  obtain ⟨a1, c1, rfl⟩ := hp1.slice
  obtain ⟨a2, c2, rfl⟩ := hp2.slice
  have HP1 := Lib.hid hp1
  have HP2 := Lib.hid hp2
  have HV1 := Lib.hid hv1
  have HV2 := Lib.hid hv2
  clear hp1 hp2 hv1 hv2
  go_enter Try.func4, Try.ntmps4
  go_wp2_with fail
  refine calls_world fun wA hwA => ?_
  have hBA : Below w.heap.size w wA := by rw [hwA]; exact (Below.refl _ _).alloc (Nat.le_refl _) _
  have hKA : Blk wA w.heap.size 44 [.int .i64 d, .int .i64 t] := by rw [hwA]; exact Blk.new w 44 [.int .i64 d, .int .i64 t]
  have HPA1 := Lib.hid (HP1.out.below hBA)
  have HPA2 := Lib.hid (HP2.out.below hBA)
  have HVA1 : Hid (∀ x, (Value.slice a1 p1.length c1).ownBlock = some x → x < wA.heap.size) := fun x hx => Nat.lt_of_lt_of_le (HV1.out x hx) hBA.size
  have HVA2 : Hid (∀ x, (Value.slice a2 p2.length c2).ownBlock = some x → x < wA.heap.size) := fun x hx => Nat.lt_of_lt_of_le (HV2.out x hx) hBA.size
  have HBA := Lib.hid hBA
  have HKA := Lib.hid hKA
  clear hBA hKA hwA HP1 HP2 HV1 HV2
  refine (awake_any _).mono ?_; rintro e w1 ⟨rfl, hb1⟩
  have HB1 := Lib.hid hb1
  clear hb1
  by_cases hlong : 300 < p1.length ∨ 300 < p2.length
  · by_cases k1 : (300 : Int) < p1.length
    · go_wp2_with fail
      refine (awake_any _).mono ?_; rintro e w2 ⟨rfl, hb2⟩
      have HE := Lib.hid (HBA.out.trans ((HB1.out.trans (hb2.mono HB1.out.size)).mono HBA.out.size))
      clear hb2
      go_wp2_with fail
      go_ret
      exact ⟨rfl, HE.out⟩
    · have k2 : (300 : Int) < p2.length := by omega
      go_wp2_with fail
      refine (awake_any _).mono ?_; rintro e w2 ⟨rfl, hb2⟩
      have HE := Lib.hid (HBA.out.trans ((HB1.out.trans (hb2.mono HB1.out.size)).mono HBA.out.size))
      clear hb2
      go_wp2_with fail
      go_ret
      exact ⟨rfl, HE.out⟩
  obtain ⟨k1, k2⟩ : (¬ (300 : Int) < p1.length) ∧ (¬ (300 : Int) < p2.length) := by omega
  obtain ⟨m1, m2⟩ : p1.length ≤ 300 ∧ p2.length ≤ 300 := by omega
  have M1 := Lib.hid m1
  have M2 := Lib.hid m2
  clear hlong m1 m2 hl1 hl2
  go_wp2_with fail
  refine (new_own 2000 (by omega) (by omega) wA w1 HB1.out).mono ?_; rintro e w2 ⟨g, rfl, hw2⟩
  have H2 := Lib.hid hw2
  clear hw2
  go_wp2_with fail
  refine (create1_own (s := nK) H2.out (by omega) (by omega) nameK).mono ?_; rintro e w3 ⟨b, A3, rfl, hw3, hO3, _, _⟩
  have H3 := Lib.hid hw3
  have O3 := Lib.hid hO3
  clear hw3 hO3
  go_wp2_with fail
  refine (append_own_arg H3.out O3.out (by omega) (HPA1.out.below H3.out.base) HVA1.out (by have := M1.out; simp; omega) (by have := M1.out; simp; omega)).mono ?_; rintro e w4 ⟨A4, rfl, hw4, hO4, _, _⟩
  have H4 := Lib.hid hw4
  have O4 := Lib.hid hO4
  clear hw4 hO4
  go_wp2_with fail
  refine (sync_own H4.out O4.out (by omega)).mono ?_; rintro e w5 ⟨A5, rfl, hw5, hO5, _, _⟩
  have H5 := Lib.hid hw5
  have O5 := Lib.hid hO5
  clear hw5 hO5
  go_wp2_with fail
  refine (dir_own H5.out O5.out (by omega)).mono ?_; rintro e w6 ⟨A6, rfl, hw6, hO6, hsu6, hsi6⟩
  have H6 := Lib.hid hw6
  have O6 := Lib.hid hO6
  have SU6 := Lib.hid hsu6
  have SI6 := Lib.hid hsi6
  clear hw6 hO6 hsu6 hsi6
  go_wp2_with fail
  refine (append_own_arg H6.out O6.out (by omega) (HPA2.out.below H6.out.base) HVA2.out (by have := M1.out; have := M2.out; simp; omega) (by have := M1.out; have := M2.out; simp; omega)).mono ?_; rintro e w7 ⟨A7, rfl, hw7, hO7, hsu7, hsi7⟩
  have H7 := Lib.hid hw7
  have O7 := Lib.hid hO7
  have SU7 := Lib.hid (hsu7.trans SU6.out)
  have SI7 := Lib.hid (hsi7.trans SI6.out)
  clear hw7 hO7 hsu7 hsi7
  go_wp2_with fail
  refine (create2_own H7.out O7.out (by omega) SU7.out SI7.out).mono ?_; rintro e w8 ⟨b', num, A8, rfl, hw8, hT8⟩
  have H8 := Lib.hid hw8
  have T8 := Lib.hid hT8
  clear hw8 hT8
  go_wp2_with fail
  refine (append2_own H8.out T8.out (by omega) (HPA2.out.below H8.out.base) HVA2.out (by have := M2.out; simp; omega) (by have := M1.out; have := M2.out; simp; omega)).mono ?_; rintro e w9 ⟨A9, rfl, hw9, hT9⟩
  have H9 := Lib.hid hw9
  have T9 := Lib.hid hT9
  clear hw9 hT9
  go_wp2_with fail
  refine (sync2_own H9.out T9.out (by omega)).mono ?_; rintro e w10 ⟨A10, rfl, hw10, hT10⟩
  have H10 := Lib.hid hw10
  have T10 := Lib.hid hT10
  clear hw10 hT10
  go_wp2_with fail
  refine (rename2_own H10.out T10.out (by omega)).mono ?_; rintro e w11 ⟨A11, rfl, hw11, hT11⟩
  have H11 := Lib.hid hw11
  have T11 := Lib.hid hT11
  clear hw11 hT11
  go_wp2_with fail
  refine wp_world fun wB hwB => ?_
  have hBB : Below w11.heap.size w11 wB := by rw [hwB]; exact (Below.refl _ _).alloc (Nat.le_refl _) _
  have hKB : Blk wB w11.heap.size 25 (List.replicate 9 (.int .i64 0)) := by rw [hwB]; exact Blk.new w11 25 (List.replicate 9 (.int .i64 0))
  have HCB : Hid (∀ i, i < 9 → wB.cell? ⟨w11.heap.size, i, none⟩ = some (.int .i64 0)) := fun i hi => hKB.cell (by rw [List.getElem?_replicate, if_pos hi])
  have HOB := Lib.hid (H11.out.below hBB)
  clear hBB hKB hwB H2 H3 H4 H5 H6 H7 H8 H9 H10 H11 O3 O4 O5 O6 O7 SU6 SI6 SU7 SI7 T8 T9 T10
  go_loopw [10, 64] (fun _ s64 wr => ∃ i : Nat, i ≤ 9 ∧ s64 = .int .i64 i ∧ wB = wr)
    (fun _ s64 _ => 9 - (intOf s64).toNat)
  case atStart => exact ⟨0, by omega, rfl, rfl⟩
  case round =>
    obtain ⟨i, hi, rfl, rfl⟩ := hrel
    by_cases hlt : i < 9
    · have li : (i : Int) < 9 := by omega
      have c := HCB.out i hlt
      go_wp2_with fail
      go_roundw
      case rel => exact ⟨i + 1, by omega, by go_num, trivial⟩
      case measure => simp [intOf]; omega
    · have li : ¬ ((i : Int) < 9) := by omega
      clear hi hlt
      have hbk := Below.blk HOB.out.base HKA.out.lt HKA.out
      have cd := hbk.cell (i := 0) rfl
      have ct := hbk.cell (i := 1) rfl
      clear hbk
      go_wp2_with fail
      refine calls_world fun wC hwC => ?_
      have hBC : Below wB.heap.size wB wC := by rw [hwC]; exact (Below.refl _ _).alloc (Nat.le_refl _) _
      have hIC : Ints wC (.slice (some ⟨wB.heap.size, 0, none⟩) 2 2) [t, 5] := by
        have hb := Blk.new wB 3 [.int .i64 t, .int .i64 5]
        rw [hwC]
        exact .inr ⟨wB.heap.size, 0, 2, rfl, hb.lt, hb.range 0 _ fun j v hv => by rw [Nat.zero_add]; exact hv⟩
      clear hwC
      refine (crash2_own (d := d) (HOB.out.below hBC) T11.out (by omega) rfl rfl hIC (by simp)).mono ?_; rintro e w12 ⟨gx, X, rfl, hwx, hIX, r1, r2, r3⟩
      obtain ⟨k, hk0, hk1, hk2, hk3⟩ := kept_bytes p1 p2 t
      have r1' : readA X nK = ((p1 ++ p2).take k, 0) := by rw [r1, ← hk0]; rfl
      obtain ⟨kd, hkd⟩ : ∃ kd, (p1 ++ p2).take k = kd := ⟨_, rfl⟩
      have hkl : kd.length = k := by rw [← hkd]; simp; omega
      rw [hkd] at r1'
      rw [← hkl] at hk1 hk2 hk3 hkd
      have HKD := Lib.hid hkd
      have HK3 := Lib.hid hk3
      have HX := Lib.hid hwx
      have HI := Lib.hid hIX
      have R1 := Lib.hid r1'
      have R2 := Lib.hid r2
      have R3 := Lib.hid r3
      clear hwx hIX r1 r1' r2 r3 hBC hIC hk0 hkl hkd hk3
      go_wp2_with fail
      refine (read_gen nK HX.out HI.out (by decide)).mono ?_; rw [R1.out]; rintro e w13 ⟨v1, rfl, hbv, _, hw13⟩
      obtain ⟨va, vc, rfl⟩ := hbv.slice
      have hcv1 := run_string (HPA1.out.below hw13.base)
      have hcv2 := run_string (HPA2.out.below hw13.base)
      have hcv3 := fun n => run_string (hbv.below (Below.drewN (Below.refl _ w13) n))
      have hcv30 := run_string hbv
      have hbk := Below.blk hw13.base HKA.out.lt HKA.out
      have cd := hbk.cell (i := 0) rfl
      have ct := hbk.cell (i := 1) rfl
      have H13 := Lib.hid hw13
      clear hbk hw13 hbv HPA1 HVA1 HVA2
      have lk1 : ¬ ((kd.length : Int) < p1.length) := by omega
      have hs1 := strOfNums_size p1
      have hs2 := strOfNums_size p2
      have hss : ¬ (9223372036854775807 < (strOfNums p1).size + (strOfNums p2).size) := by omega
      have HJ := Lib.hid (str_two p1 p2)
      go_wp2_with fail
      rw [HJ.out]
      have hsz : (strOfNums (p1 ++ p2)).size = p1.length + p2.length := by rw [strOfNums_size, List.length_append]
      have lk2 : ¬ ((p1.length : Int) + p2.length < kd.length) := by omega
      have hx : (strOfNums (p1 ++ p2)).extract 0 kd.length = strOfNums kd := by rw [str_take, HKD.out]
      have hle : (kd.length : Int) ≤ (p1.length : Int) + p2.length := by omega
      generalize strOfNums (p1 ++ p2) = sa at *
      obtain ⟨q, hqd⟩ : ∃ q, max 0 (min t (p2.length : Int)) = q := ⟨_, rfl⟩
      have hwq : IntKind.i64.wrap ((kd.length : Int) - p1.length) = q := by rw [IntWalk.i64_in _ (by omega), HK3.out, hqd]
      have lk1n : ¬ (kd.length < p1.length) := by omega
      · go_quiet (fail)
        have H14 := Lib.hid (H13.out.below (Below.drewN (Below.refl _ w13) nq))
        clear cd ct H13 hcv1 hcv2 hcv3 hcv30 hx hle hwq
        by_cases e1 : d = 1
        · subst e1
          have r2 : readA X nL = ([] ++ p2, 0) := by rw [R2.out, if_pos rfl]
          have r3 : readA X nZ = ([], 3) := by rw [R3.out, if_neg (by omega)]
          have R2E := Lib.hid r2
          have R3E := Lib.hid r3
          clear r2 r3
          go_wp2_with fail
          refine (read_gen nL H14.out HI.out (by decide)).mono ?_; rw [R2E.out]; rintro e w15 ⟨x1, rfl, _, _, hw15⟩
          have H15 := Lib.hid hw15
          clear hw15
          go_wp2_with fail
          refine (read_gen nZ H15.out HI.out (by decide)).mono ?_; rw [R3E.out]; rintro e w16 ⟨x2, rfl, hbx, _, hw16⟩
          obtain ⟨xa, xc, rfl⟩ := hbx.slice
          have hbk := Below.blk hw16.base HKA.out.lt HKA.out
          have cd := hbk.cell (i := 0) rfl
          have hcx := run_string hbx
          have hcy := run_string (HPA2.out.below hw16.base)
          have HE := Lib.hid (HBA.out.trans (hw16.base.mono HBA.out.size))
          clear hbk hw16 hbx
          go_wp2_with fail
          go_ret
          exact ⟨rfl, HE.out⟩
        by_cases e2 : 2 ≤ d
        · have e3 : ¬ d ≤ 0 := by omega
          have e4 : (d == 1) = false := by rw [beq_eq_false_iff_ne]; exact e1
          have r2 : readA X nL = ([], 3) := by rw [R2.out, if_neg e1]
          have r3 : readA X nZ = (p2, 0) := by rw [R3.out, if_pos e2]; rfl
          have R2E := Lib.hid r2
          have R3E := Lib.hid r3
          clear r2 r3
          go_wp2_with fail
          refine (read_gen nL H14.out HI.out (by decide)).mono ?_; rw [R2E.out]; rintro e w15 ⟨x1, rfl, _, _, hw15⟩
          have H15 := Lib.hid hw15
          clear hw15
          go_wp2_with fail
          refine (read_gen nZ H15.out HI.out (by decide)).mono ?_; rw [R3E.out]; rintro e w16 ⟨x2, rfl, hbx, _, hw16⟩
          obtain ⟨xa, xc, rfl⟩ := hbx.slice
          have hbk := Below.blk hw16.base HKA.out.lt HKA.out
          have cd := hbk.cell (i := 0) rfl
          have hcx := run_string hbx
          have hcy := run_string (HPA2.out.below hw16.base)
          have HE := Lib.hid (HBA.out.trans (hw16.base.mono HBA.out.size))
          clear hbk hw16 hbx
          go_wp2_with fail
          go_ret
          exact ⟨rfl, HE.out⟩
        · have e3 : d ≤ 0 := by omega
          have e4 : (d == 1) = false := by rw [beq_eq_false_iff_ne]; exact e1
          have r2 : readA X nL = ([], 3) := by rw [R2.out, if_neg e1]
          have r3 : readA X nZ = ([], 3) := by rw [R3.out, if_neg e2]
          have R2E := Lib.hid r2
          have R3E := Lib.hid r3
          clear r2 r3
          go_wp2_with fail
          refine (read_gen nL H14.out HI.out (by decide)).mono ?_; rw [R2E.out]; rintro e w15 ⟨x1, rfl, _, _, hw15⟩
          have H15 := Lib.hid hw15
          clear hw15
          go_wp2_with fail
          refine (read_gen nZ H15.out HI.out (by decide)).mono ?_; rw [R3E.out]; rintro e w16 ⟨x2, rfl, hbx, _, hw16⟩
          obtain ⟨xa, xc, rfl⟩ := hbx.slice
          have hbk := Below.blk hw16.base HKA.out.lt HKA.out
          have cd := hbk.cell (i := 0) rfl
          have hcx := run_string hbx
          have hcy := run_string (HPA2.out.below hw16.base)
          have HE := Lib.hid (HBA.out.trans (hw16.base.mono HBA.out.size))
          clear hbk hw16 hbx
          go_wp2_with fail
          go_ret
          exact ⟨rfl, HE.out⟩
end Go.Proofs.Ytigpccfglicjeab
