/- SimfsSwaps: a synced file that is renamed over another one is behind a crash there as that one, or the elder one is, whole; behind SyncDir it is. For all slices of bytes and numbers; no condition. -/
import Derived.Test.YtcnklondaihbmaaFsSw
import Derived.Test.YtcnklondaihbmaaFsOb
namespace Go.Proofs.Ytcnklondaihbmaa
open Go.RowKit Go.WideShapes Go.ChangeShapes Go.ChangeAt

theorem errnoInfo : (Try.prog.info? 25).map (fun i => (i.zero, i.size, i.bytes)) = some (some (.int .i64 0), 1, 8) := by kernel_rfl
set_option maxRecDepth 100000 in
set_option maxHeartbeats 8000000 in
theorem swapsLaw_any (v1 v2 : Value) (p1 p2 : List Int) (h : Int) (w : World) (hp1 : Bytes w v1 p1) (hp2 : Bytes w v2 p2) (hl1 : p1.length < 9223372036854775808) (hl2 : p2.length < 9223372036854775808) :
    Calls Try.prog 9 #[v1, v2, .int .i64 h] w fun e w' => e = .returned (.bool true) ∧ Below w.heap.size w w' := by
  have hv1 : ∀ x, v1.ownBlock = some x → x < w.heap.size := by
    rcases hp1 with ⟨rfl, _⟩ | ⟨pb, po, cap, rfl, _, h, _⟩
    · intro x hx; cases hx
    · intro x hx; cases hx; exact h
  have hv2 : ∀ x, v2.ownBlock = some x → x < w.heap.size := by
    rcases hp2 with ⟨rfl, _⟩ | ⟨pb, po, cap, rfl, _, h, _⟩
    · intro x hx; cases hx
    · intro x hx; cases hx; exact h
  obtain ⟨a1, c1, rfl⟩ := hp1.slice
  obtain ⟨a2, c2, rfl⟩ := hp2.slice
  have HP1 := Lib.hid hp1
  have HP2 := Lib.hid hp2
  have HV1 := Lib.hid hv1
  have HV2 := Lib.hid hv2
  clear hp1 hp2 hv1 hv2
  obtain ⟨d, hd⟩ : ∃ d, h / 2 = d := ⟨_, rfl⟩
  obtain ⟨sr, hsr⟩ : ∃ sr, (bits .and .i64 h 1 == 1) = sr := ⟨_, rfl⟩
  go_enter Try.func9, Try.ntmps9
  go_wp2_with fail
  refine (awake_any _).mono ?_; rintro e w1 ⟨rfl, hb1⟩
  have HB1 := Lib.hid hb1
  clear hb1 hd hsr
  by_cases hlong : 300 < p1.length ∨ 300 < p2.length
  · by_cases k1 : (300 : Int) < p1.length
    · go_wp2_with fail
      refine (awake_any _).mono ?_; rintro e w2 ⟨rfl, hb2⟩
      have HE := Lib.hid (HB1.out.trans (hb2.mono HB1.out.size))
      clear hb2
      go_wp2_with fail
      go_ret
      exact ⟨rfl, HE.out⟩
    · have k2 : (300 : Int) < p2.length := by omega
      go_wp2_with fail
      refine (awake_any _).mono ?_; rintro e w2 ⟨rfl, hb2⟩
      have HE := Lib.hid (HB1.out.trans (hb2.mono HB1.out.size))
      clear hb2
      go_wp2_with fail
      go_ret
      exact ⟨rfl, HE.out⟩
  obtain ⟨k1, k2⟩ : (¬ (300 : Int) < p1.length) ∧ (¬ (300 : Int) < p2.length) := by omega
  obtain ⟨m1, m2⟩ : p1.length ≤ 300 ∧ p2.length ≤ 300 := by omega
  have M1 := Lib.hid m1
  have M2 := Lib.hid m2
  clear hlong m1 m2 hl1 hl2
  go_wp2_with fail
  refine (new_own 2000 (by omega) (by omega) w w1 HB1.out).mono ?_; rintro e w2 ⟨g, rfl, hw2⟩
  have H2 := Lib.hid hw2
  clear hw2
  go_wp2_with fail
  refine (create1_own (s := nA) H2.out (by omega) (by omega) nameA).mono ?_; rintro e w3 ⟨b, A3, rfl, hw3, hO3, _, _⟩
  have H3 := Lib.hid hw3
  have O3 := Lib.hid hO3
  clear hw3 hO3
  go_wp2_with fail
  refine (append_own_arg H3.out O3.out (by omega) (HP1.out.below H3.out.base) HV1.out (by have := M1.out; simp; omega) (by have := M1.out; simp; omega)).mono ?_; rintro e w4 ⟨A4, rfl, hw4, hO4, _, _⟩
  have H4 := Lib.hid hw4
  have O4 := Lib.hid hO4
  clear hw4 hO4
  go_wp2_with fail
  refine (sync_own H4.out O4.out (by omega)).mono ?_; rintro e w5 ⟨A5, rfl, hw5, hO5, _, _⟩
  have H5 := Lib.hid hw5
  have O5 := Lib.hid hO5
  clear hw5 hO5
  go_wp2_with fail
  refine (dir_own H5.out O5.out (by omega)).mono ?_; rintro e w6 ⟨A6, rfl, hw6, hO6, hsu6, hsi6⟩
  have H6 := Lib.hid hw6
  have O6 := Lib.hid hO6
  have SU6 := Lib.hid hsu6
  have SI6 := Lib.hid hsi6
  clear hw6 hO6 hsu6 hsi6
  go_wp2_with fail
  refine (createS_own H6.out O6.out (by omega) SU6.out SI6.out).mono ?_; rintro e w8 ⟨b', num, A8, rfl, hw8, hT8⟩
  have H8 := Lib.hid hw8
  have T8 := Lib.hid hT8
  clear hw8 hT8
  go_wp2_with fail
  refine (appendS_own H8.out T8.out (by omega) (HP2.out.below H8.out.base) HV2.out (by have := M2.out; simp; omega) (by have := M1.out; have := M2.out; simp; omega)).mono ?_; rintro e w9 ⟨A9, rfl, hw9, hT9⟩
  have H9 := Lib.hid hw9
  have T9 := Lib.hid hT9
  clear hw9 hT9
  go_wp2_with fail
  refine (syncS_own H9.out T9.out (by omega)).mono ?_; rintro e w10 ⟨A10, rfl, hw10, hT10⟩
  have H10 := Lib.hid hw10
  have T10 := Lib.hid hT10
  clear hw10 hT10
  go_wp2_with fail
  refine (renameS_own H10.out T10.out (by omega)).mono ?_; rintro e w11 ⟨A11, rfl, hw11, hT11⟩
  have H11 := Lib.hid hw11
  have T11 := Lib.hid hT11
  clear hw11 hT11
  clear H2 H3 H4 H5 H6 H8 H9 H10 O3 O4 O5 O6 SU6 SI6 T8 T9 T10
  cases sr
  · go_wp2_with fail
    refine wp_world fun wB hwB => ?_
    have hBB : Below w11.heap.size w11 wB := by rw [hwB]; exact (Below.refl _ _).alloc (Nat.le_refl _) _
    have hKB : Blk wB w11.heap.size 25 (List.replicate 8 (.int .i64 0)) := by rw [hwB]; exact Blk.new w11 25 (List.replicate 8 (.int .i64 0))
    have HCB : Hid (∀ i, i < 8 → wB.cell? ⟨w11.heap.size, i, none⟩ = some (.int .i64 0)) := fun i hi => hKB.cell (by rw [List.getElem?_replicate, if_pos hi])
    have HOB := Lib.hid (H11.out.below hBB)
    clear hBB hKB hwB H11
    go_loopw [13, 71] (fun _ s71 wr => ∃ i : Nat, i ≤ 8 ∧ s71 = .int .i64 i ∧ wB = wr)
      (fun _ s71 _ => 8 - (intOf s71).toNat)
    case atStart => exact ⟨0, by omega, rfl, rfl⟩
    case round =>
      obtain ⟨i, hi, rfl, rfl⟩ := hrel
      by_cases hlt : i < 8
      · have li : (i : Int) < 8 := by omega
        have c := HCB.out i hlt
        go_wp2_with fail
        go_roundw
        case rel => exact ⟨i + 1, by omega, by go_num, trivial⟩
        case measure => simp [intOf]; omega
      · have li : ¬ ((i : Int) < 8) := by omega
        clear hi hlt
        have HLF := Lib.hid (leftS_not T11.out d)
        by_cases e1 : d ≤ 0
        · have eg : ¬ (2 ≤ d) := by omega
          have hmx : max 0 (min d 1) = 0 := by omega
          have hL : dget (leftD A11 d) nA = some b := by rw [HLF.out, if_pos e1]; exact one_get nA b
          have hm : (namesD (leftD A11 d)).length = 1 := by rw [HLF.out, if_pos e1]; exact names_one nA b
          go_wp2_with fail
          refine (crashS_own (d := d) HOB.out T11.out (by omega) rfl rfl _ b (.inl ⟨rfl, rfl⟩) 1 hL hm).mono ?_; rintro e w12 ⟨gx, X, rfl, hwx, hIX, r1, hnm⟩
          have R1 : Hid (readA X nA = (p1, 0)) := r1
          have HX := Lib.hid hwx
          have HI := Lib.hid hIX
          have HNM := Lib.hid hnm
          clear hwx hIX r1 hnm hL hm
          go_wp2_with fail
          refine (read_gen nA HX.out HI.out (by decide)).mono ?_; rw [R1.out]; rintro e w13 ⟨v1, rfl, hbv, _, hw13⟩
          obtain ⟨va, vc, rfl⟩ := hbv.slice
          have hcv1 := run_string (HP1.out.below hw13.base)
          have hcv2 := run_string (HP2.out.below hw13.base)
          have hcv3 := run_string hbv
          have HX13 := Lib.hid hw13
          clear hw13 hbv
          go_wp2_with fail
          refine (len_own HX13.out (by have := HI.out.sizeNow; omega) 1 HNM.out).mono ?_; rintro e w14 ⟨la, lc, rfl, hB14, hw14⟩
          have HE := Lib.hid hw14.base
          clear hB14 hw14 hcv1 hcv2 hcv3
          go_wp2_with fail
          go_ret
          exact ⟨rfl, HE.out⟩
        by_cases e2 : d = 1
        · have eg : ¬ (2 ≤ d) := by omega
          have hmx : max 0 (min d 1) = 1 := by omega
          have hL : dget (leftD A11 d) nA = some b := by rw [HLF.out, if_neg e1, if_pos e2]; exact dB_a b b'
          have hm : (namesD (leftD A11 d)).length = 2 := by rw [HLF.out, if_neg e1, if_pos e2]; exact names_two b b'
          clear e1 e2
          go_wp2_with fail
          refine (crashS_own (d := d) HOB.out T11.out (by omega) rfl rfl _ b (.inl ⟨rfl, rfl⟩) 2 hL hm).mono ?_; rintro e w12 ⟨gx, X, rfl, hwx, hIX, r1, hnm⟩
          have R1 : Hid (readA X nA = (p1, 0)) := r1
          have HX := Lib.hid hwx
          have HI := Lib.hid hIX
          have HNM := Lib.hid hnm
          clear hwx hIX r1 hnm hL hm
          go_wp2_with fail
          refine (read_gen nA HX.out HI.out (by decide)).mono ?_; rw [R1.out]; rintro e w13 ⟨v1, rfl, hbv, _, hw13⟩
          obtain ⟨va, vc, rfl⟩ := hbv.slice
          have hcv1 := run_string (HP1.out.below hw13.base)
          have hcv2 := run_string (HP2.out.below hw13.base)
          have hcv3 := run_string hbv
          have HX13 := Lib.hid hw13
          clear hw13 hbv
          go_wp2_with fail
          refine (len_own HX13.out (by have := HI.out.sizeNow; omega) 2 HNM.out).mono ?_; rintro e w14 ⟨la, lc, rfl, hB14, hw14⟩
          have HE := Lib.hid hw14.base
          clear hB14 hw14 hcv1 hcv2 hcv3
          go_wp2_with fail
          go_ret
          exact ⟨rfl, HE.out⟩
        · have eg : 2 ≤ d := by omega
          have hL : dget (leftD A11 d) nA = some b' := by rw [HLF.out, if_neg e1, if_neg e2]; exact dSw_a b b'
          have hm : (namesD (leftD A11 d)).length = 1 := by rw [HLF.out, if_neg e1, if_neg e2, dSw_eq]; exact names_one nA b'
          clear e1 e2
          go_wp2_with fail
          refine (crashS_own (d := d) HOB.out T11.out (by omega) rfl rfl _ b' (.inr ⟨rfl, rfl⟩) 1 hL hm).mono ?_; rintro e w12 ⟨gx, X, rfl, hwx, hIX, r1, hnm⟩
          have R1 : Hid (readA X nA = (p2, 0)) := r1
          have HX := Lib.hid hwx
          have HI := Lib.hid hIX
          have HNM := Lib.hid hnm
          clear hwx hIX r1 hnm hL hm
          go_wp2_with fail
          refine (read_gen nA HX.out HI.out (by decide)).mono ?_; rw [R1.out]; rintro e w13 ⟨v1, rfl, hbv, _, hw13⟩
          obtain ⟨va, vc, rfl⟩ := hbv.slice
          have hcv1 := run_string (HP1.out.below hw13.base)
          have hcv2 := run_string (HP2.out.below hw13.base)
          have hcv3 := run_string hbv
          have HX13 := Lib.hid hw13
          clear hw13 hbv
          go_wp2_with fail
          refine (len_own HX13.out (by have := HI.out.sizeNow; omega) 1 HNM.out).mono ?_; rintro e w14 ⟨la, lc, rfl, hB14, hw14⟩
          have HE := Lib.hid hw14.base
          clear hB14 hw14 hcv1 hcv2 hcv3
          go_wp2_with fail
          go_ret
          exact ⟨rfl, HE.out⟩
  · go_wp2_with fail
    refine calls_world fun wB hwB => ?_
    have hBB : Below w11.heap.size w11 wB := by rw [hwB]; exact (Below.refl _ _).alloc (Nat.le_refl _) _
    have hKB : Blk wB w11.heap.size 25 (List.replicate 8 (.int .i64 0)) := by rw [hwB]; exact Blk.new w11 25 (List.replicate 8 (.int .i64 0))
    clear hwB
    refine (dirS_keep H11.out T11.out (by omega) hBB hKB).mono ?_; rintro e wC ⟨A12, rfl, hwC, hT12, hkC, hgr⟩
    have T12 := Lib.hid hT12
    have HC := Lib.hid hwC
    have HGR := Lib.hid hgr
    have hown : (wC.alloc (.cells #[.int .i64 0] 25)).ownsRow w11.heap.size 25 1 (.slice (some ⟨w11.heap.size, 0, none⟩) 8 8) 8 (List.replicate 8 (Value.int .i64 0)) :=
      World.ownsRow.alloc ⟨rfl, .inr ⟨w11.heap.size, 8, (List.replicate 8 (Value.int .i64 0)).toArray, rfl, Nat.le_refl _, hkC, Nat.le_refl _, by unfold maxLen; omega, rfl, rfl⟩⟩ _
    have HOW := Lib.hid hown
    have hnw : ∀ j u, [Value.int .i64 0][j]? = some u → (wC.alloc (.cells #[.int .i64 0] 25)).cell? ((⟨wC.heap.size, 0, none⟩ : Addr).add j) = some u := fun j u hu => by
      rw [Addr.add_mid, Nat.zero_add]; exact (Blk.new wC 25 [Value.int .i64 0]).cell hu
    have HNW := Lib.hid hnw
    have hbs : w11.heap.size ≤ (wC.alloc (.cells #[.int .i64 0] 25)).heap.size := by have := hkC.lt; simp; omega
    clear hBB hKB hwC hT12 hkC hown hnw hgr T11 H11
    obtain ⟨i0, hi, hz0, hz1, hz2⟩ := info_parts errnoInfo
    have HI0 := Lib.hid hi
    have HZ0 := Lib.hid hz0
    have HZ1 := Lib.hid hz1
    have HZ2 := Lib.hid hz2
    clear hi hz0 hz1 hz2
    go_wp2_with (with_reducible refine wpList_append_own _ rfl (.tmp 64) (.tmp 67) 49 rfl w11.heap.size 25 i0 (.int .i64 0) 1 8 Try.underlying49 HI0.out HZ0.out HZ1.out HZ2.out rfl (by decide) (.slice (some ⟨w11.heap.size, 0, none⟩) 8 8) 8 (List.replicate 8 (Value.int .i64 0)) ?_ HOW.out ⟨wC.heap.size, 0, none⟩ 1 1 [.int .i64 0] ?_ rfl HNW.out ?_ ?_ ?_ hbs ?_)
    case refine_1 => rfl
    case refine_2 => rfl
    case refine_3 => intro u hu; rw [List.mem_singleton] at hu; subst hu; rfl
    case refine_4 => unfold maxLen; omega
    case refine_5 => omega
    intro vD wD hownD hgD _
    have hOC : Own w wD g A12 := HGR.out _ _ ((Below.refl _ _).alloc (Nat.le_refl _) _) hgD
    have HOC := Lib.hid hOC
    obtain ⟨gD, cD, hvD, hcD⟩ : ∃ gD cD, vD = .slice (some ⟨gD, 0, none⟩) 9 cD ∧ ∀ i, i < 9 → wD.cell? ⟨gD, i, none⟩ = some (.int .i64 0) := by
      rcases hownD.2 with ⟨_, h0⟩ | ⟨x, cap, cur, hv, _, hh, _, _, hcs, hxs⟩
      · omega
      · refine ⟨x, cap, hv, fun i hi => ?_⟩
        rw [cell_of_row wD x i cur _ _ hh, ← Array.getElem?_toList]
        have h9 : (cur.toList.take ((8 + 1) * 1))[i]? = some (.int .i64 0) := by
          rw [hxs]
          show (List.replicate 9 (Value.int .i64 0))[i]? = _
          rw [List.getElem?_replicate, if_pos hi]
        rw [List.getElem?_take_of_lt (by omega)] at h9
        exact h9
    subst hvD
    have HCD := Lib.hid hcD
    clear hownD hgD hcD hOC HGR HOW HNW HI0 HZ0 HZ1 HZ2 HC
    go_wp2_with fail
    go_loopw [13, 71] (fun _ s71 wr => ∃ i : Nat, i ≤ 9 ∧ s71 = .int .i64 i ∧ wD = wr)
      (fun _ s71 _ => 9 - (intOf s71).toNat)
    case atStart => exact ⟨0, by omega, rfl, rfl⟩
    case round =>
      obtain ⟨i, hi, rfl, rfl⟩ := hrel
      by_cases hlt : i < 9
      · have li : (i : Int) < 9 := by omega
        have c := HCD.out i hlt
        go_wp2_with fail
        go_roundw
        case rel => exact ⟨i + 1, by omega, by go_num, trivial⟩
        case measure => simp [intOf]; omega
      · have li : ¬ ((i : Int) < 9) := by omega
        clear hi hlt
        have hL : dget (leftD A12 d) nA = some b' := by rw [leftS_sure T12.out]; exact dSw_a b b'
        have hm : (namesD (leftD A12 d)).length = 1 := by rw [leftS_sure T12.out, dSw_eq]; exact names_one nA b'
        go_wp2_with fail
        refine (crashS_own (d := d) HOC.out T12.out (by omega) rfl rfl _ b' (.inr ⟨rfl, rfl⟩) 1 hL hm).mono ?_; rintro e w12 ⟨gx, X, rfl, hwx, hIX, r1, hnm⟩
        have R1 : Hid (readA X nA = (p2, 0)) := r1
        have HX := Lib.hid hwx
        have HI := Lib.hid hIX
        have HNM := Lib.hid hnm
        clear hwx hIX r1 hnm hL hm
        go_wp2_with fail
        refine (read_gen nA HX.out HI.out (by decide)).mono ?_; rw [R1.out]; rintro e w13 ⟨v1, rfl, hbv, _, hw13⟩
        obtain ⟨va, vc, rfl⟩ := hbv.slice
        have hcv1 := run_string (HP1.out.below hw13.base)
        have hcv2 := run_string (HP2.out.below hw13.base)
        have hcv3 := run_string hbv
        have HX13 := Lib.hid hw13
        clear hw13 hbv
        go_wp2_with fail
        refine (len_own HX13.out (by have := HI.out.sizeNow; omega) 1 HNM.out).mono ?_; rintro e w14 ⟨la, lc, rfl, hB14, hw14⟩
        have HE := Lib.hid hw14.base
        clear hB14 hw14 hcv1 hcv2 hcv3
        go_wp2_with fail
        go_ret
        exact ⟨rfl, HE.out⟩
end Go.Proofs.Ytcnklondaihbmaa
