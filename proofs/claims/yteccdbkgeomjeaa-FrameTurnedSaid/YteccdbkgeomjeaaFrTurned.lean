/- FrameTurned: a frame of whose kind and payload one byte is another one isn't decoded; nor is one of whose sum a bit is turned. For every kind, every slice of bytes and every pair of numbers; no condition. -/
import Derived.Test.YteccdbkgeomjeaaFrN
import Derived.Test.YteccdbkgeomjeaaFrSums
import Derived.Test.YteccdbkgeomjeaaTail
import Derived.Laws.Closers25b
namespace Go.Proofs.Yteccdbkgeomjeaa
open Go.RowKit Go.WideShapes Go.ChangeShapes Go.ChangeAt

set_option maxRecDepth 100000 in
set_option maxHeartbeats 8000000 in
theorem turned_any (kk : Int) (v : Value) (p : List Int) (x y : Int) (w : World) (hp : Bytes w v p) (hy : Byt p) (hm : p.length < 9223372036854775808) :
    Calls Try.prog 8 #[.int .i64 kk, v, .agg #[.int .i64 x, .int .i64 y]] w fun e w' => e = .returned (.bool true) ∧ Below w.heap.size w w' := by
  obtain ⟨va, vc, rfl⟩ := hp.slice'
  have HP := Lib.hid hp
  have HY := Lib.hid hy
  clear hp hy
  go_enter Try.func8, Try.ntmps8
  go_wp2_with fail
  refine calls_world fun wA hwA => ?_
  have hBA : Below w.heap.size w wA := by rw [hwA]; exact (Below.refl _ _).alloc (Nat.le_refl _) _
  have hKA : Blk wA w.heap.size 55 [.int .i64 x, .int .i64 y] := by rw [hwA]; exact Blk.new w 55 [.int .i64 x, .int .i64 y]
  have HBA := Lib.hid hBA
  have HKA := Lib.hid hKA
  clear hwA hBA hKA
  refine (awake_any _).mono ?_; rintro e w1 ⟨rfl, hb1⟩
  have HB1 := Lib.hid (HBA.out.trans (hb1.mono HBA.out.size))
  have HK1 := Lib.hid (Below.blk hb1 HKA.out.lt HKA.out)
  clear hb1
  by_cases hlong : (3000 : Int) < p.length
  · go_wp2_with fail
    refine (awake_any _).mono ?_; rintro e w2 ⟨rfl, hb2⟩
    have HE := Lib.hid (HB1.out.trans (hb2.mono HB1.out.size))
    clear hb2
    go_wp2_with fail
    go_ret
    exact ⟨rfl, HE.out⟩
  · have hl : p.length ≤ 3000 := by omega
    obtain ⟨q, hq, q0, q9⟩ := kind_of kk
    have hux := u64_nonneg kk
    go_wp2_with fail
    refine (enc_one (q + 1) w1 (by omega) (by omega) (.inl HP.out) HY.out (by omega) HB1.out).mono ?_; rintro e w2 ⟨vb, rfl, hob, hbb⟩
    clear hq hux hm
    have HFL := Lib.hid (frameI_length (q + 1) p)
    have HFB := Lib.hid (frameI_byt (k := q + 1) (by omega) (by omega) HY.out)
    have HT := Lib.hid (fun (i : Nat) (hi : 4 ≤ i) (hi2 : i < p.length + 9) (z : Int) (z0 : 0 ≤ z) (z1 : z ≤ 255) (hne : z ≠ (frameI (q + 1) p).getD i 0) => turned_is (k := q + 1) (by omega) (by omega) HY.out (by omega) hi hi2 z0 z1 hne)
    have HD := Lib.hid (decodeI_frame (k := q + 1) (by omega) (by omega) HY.out (by omega))
    generalize frameI (q + 1) p = F at *
    obtain ⟨⟨gb, gc⟩, hvb⟩ : ∃ gc : Nat × Nat, vb = .slice (some ⟨gc.1, 0, none⟩) (p.length + 9) gc.2 := by
      rcases hob.2 with ⟨_, h0⟩ | ⟨g, cap, cur, h1, _⟩
      · rw [HFL.out] at h0; omega
      · exact ⟨⟨g, cap⟩, by rw [h1, HFL.out]⟩
    simp only at hvb
    subst hvb
    have HO2 := Lib.hid hob
    have HB2 := Lib.hid (HB1.out.trans (hbb.mono HB1.out.size))
    have hK2 := Below.blk hbb HK1.out.lt HK1.out
    have cx := hK2.cell (i := 0) rfl
    have cy := hK2.cell (i := 1) rfl
    have HK2 := Lib.hid hK2
    clear hob hbb hK2
    have hux := u64_nonneg x
    have huy := u64_nonneg y
    obtain ⟨j, hj⟩ : ∃ j : Nat, IntKind.u64.wrap x % ((p.length : Int) + 9 - 4) = (j : Int) := ⟨(IntKind.u64.wrap x % ((p.length : Int) + 9 - 4)).toNat, by rw [Int.toNat_of_nonneg (Int.emod_nonneg _ (by omega))]⟩
    have hjl : j < p.length + 5 := by have := Int.emod_lt_of_pos (IntKind.u64.wrap x) (show (0 : Int) < (p.length : Int) + 9 - 4 by omega); omega
    have hcell := HO2.out.cell (4 + j) (by rw [HFL.out]; omega)
    obtain ⟨_, _, hgb, hcb, hfb⟩ := hcell
    simp only at hgb hcb hfb
    have hbF := HFB.out.getD (4 + j)
    obtain ⟨z, hz⟩ : ∃ z, F.getD (4 + j) 0 = z := ⟨_, rfl⟩
    rw [hz] at hcb hbF
    have HZ := Lib.hid hz
    have HGB := Lib.hid hgb
    clear hz hgb
    by_cases hk : 4 + (j : Int) < 5 + p.length
    · go_wp2_with fail
      refine calls_world fun w3 hw3 => ?_
      obtain ⟨Y, hY0, hY1, hO3, hB3⟩ : ∃ Y : Int, 0 ≤ Y ∧ Y ≤ 255 ∧ OwnB w3 w1.heap.size (.slice (some ⟨gb, 0, none⟩) (p.length + 9) gc) (F.set (4 + j) Y) ∧ Below w.heap.size w w3 :=
        ⟨y % 256, by omega, by omega, by rw [hw3]; exact HO2.out.set (4 + j) _, by rw [hw3]; exact HB2.out.setCell (p := ⟨gb, 4 + j, none⟩) (Nat.le_trans HB1.out.size HGB.out) _⟩
      have HB3 := Lib.hid hB3
      have HO3 := Lib.hid hO3
      have HSL := Lib.hid (show (F.set (4 + j) Y).length = p.length + 9 by rw [List.length_set, HFL.out])
      have HSB := Lib.hid (HFB.out.set (4 + j) hY0 hY1)
      have hSY : (F.set (4 + j) Y).getD (4 + j) 0 = Y := by
        rw [List.getD_eq_getElem?_getD, List.getElem?_set_self (by rw [HFL.out]; omega)]; rfl
      have HSY := Lib.hid hSY
      clear hw3 hB3 hO3 hSY hcb hfb
      have cD := decodeTop_any _ (F.set (4 + j) Y) w3 (.inl HO3.out.bytes) HSB.out (by rw [HSL.out]; omega)
      by_cases hYz : Y = z
      · have hF : F.set (4 + j) Y = F := by rw [hYz, ← HZ.out]; exact set_self (by rw [HFL.out]; omega)
        have hD : decodeI (F.set (4 + j) Y) = (q + 1, p, 0) := by rw [hF]; exact HD.out
        rw [hD] at cD
        have CD := Lib.hid cD
        have hYe : (Y == z) = true := by simpa using hYz
        clear cD hF hD hYz HT HD
        refine CD.out.mono ?_; rintro e w4 ⟨v4, rfl, ho4, hb4⟩
        obtain ⟨g4, n4, c4, rfl⟩ : ∃ g n c, v4 = .slice g n c := by
          obtain ⟨g, c, h⟩ := ho4.slice
          exact ⟨g, _, c, h⟩
        have hcb4 := ((HO3.out.keep hb4).cell (4 + j) (by rw [HSL.out]; omega)).2.2.2.1
        rw [HSY.out] at hcb4
        have hcb5 : (w4.alloc (.cells #[.int .i64 (q + 1), .slice g4 n4 c4] 37)).cell? ⟨gb, 4 + j, none⟩ = some (.int .u8 Y) := by
          rw [World.cell?_of_block (w := w4) (Below.heap_alloc w4 _ gb ((HO3.out.keep hb4).lt gb rfl).2)]; exact hcb4
        have HB4 := Lib.hid (HB3.out.trans (hb4.mono HB3.out.size))
        clear ho4 hb4 hcb4
        go_wp2_with fail
        go_ret
        exact ⟨rfl, HB4.out.alloc HB4.out.size _⟩
      · have hne : Y ≠ F.getD (4 + j) 0 := by rw [HZ.out]; exact hYz
        have hYe : (Y == z) = false := by simpa using hYz
        rcases HT.out (4 + j) (by omega) (by omega) Y hY0 hY1 hne with hD | ⟨hj4, hD⟩
        · rw [hD] at cD
          have CD := Lib.hid cD
          clear cD hD hYz HT HD hne
          refine CD.out.mono ?_; rintro e w4 ⟨v4, rfl, ho4, hb4⟩
          obtain ⟨g4, c4, rfl⟩ : ∃ g c, v4 = .slice g 0 c := ho4.slice
          have hcb4 := ((HO3.out.keep hb4).cell (4 + j) (by rw [HSL.out]; omega)).2.2.2.1
          rw [HSY.out] at hcb4
          have hcb5 : (w4.alloc (.cells #[.int .i64 0, .slice g4 0 c4] 37)).cell? ⟨gb, 4 + j, none⟩ = some (.int .u8 Y) := by
            rw [World.cell?_of_block (w := w4) (Below.heap_alloc w4 _ gb ((HO3.out.keep hb4).lt gb rfl).2)]; exact hcb4
          have HB4 := Lib.hid (HB3.out.trans (hb4.mono HB3.out.size))
          clear ho4 hb4 hcb4
          go_wp2_with fail
          go_ret
          exact ⟨rfl, HB4.out.alloc HB4.out.size _⟩
        · rw [hD] at cD
          have CD := Lib.hid cD
          have hj0 : ((4 : Int) + (j : Int) == 4) = true := by rw [beq_iff_eq]; omega
          clear cD hD hYz HT HD hne hj4
          refine CD.out.mono ?_; rintro e w4 ⟨v4, rfl, ho4, hb4⟩
          obtain ⟨g4, c4, rfl⟩ : ∃ g c, v4 = .slice g 0 c := ho4.slice
          have hcb4 := ((HO3.out.keep hb4).cell (4 + j) (by rw [HSL.out]; omega)).2.2.2.1
          rw [HSY.out] at hcb4
          have hcb5 : (w4.alloc (.cells #[.int .i64 0, .slice g4 0 c4] 37)).cell? ⟨gb, 4 + j, none⟩ = some (.int .u8 Y) := by
            rw [World.cell?_of_block (w := w4) (Below.heap_alloc w4 _ gb ((HO3.out.keep hb4).lt gb rfl).2)]; exact hcb4
          have HB4 := Lib.hid (HB3.out.trans (hb4.mono HB3.out.size))
          clear ho4 hb4 hcb4
          go_wp2_with fail
          go_ret
          exact ⟨rfl, HB4.out.alloc HB4.out.size _⟩
    · have h8 : 0 ≤ IntKind.u64.wrap y % 8 := Int.emod_nonneg _ (by omega)
      have h8' : IntKind.u64.wrap y % 8 ≤ 8 := by have := Int.emod_lt_of_pos (IntKind.u64.wrap y) (show (0 : Int) < 8 by omega); omega
      go_upto_region 11 with fail
      refine wp_region_quiet_tail 11 (by kernel_rfl) (by kernel_rfl) ?_
      simp only [List.take_succ_cons, List.take_zero, List.drop_succ_cons, List.drop_zero]
      repeat (go_big_quiet_step (fail))
      refine wpQuiet_nil ?_
      intro nq
      go_wp2_with fail
      refine calls_world fun w3 hw3 => ?_
      obtain ⟨Y, hY0, hY1, hO3, hB3⟩ : ∃ Y : Int, 0 ≤ Y ∧ Y ≤ 255 ∧ OwnB w3 w1.heap.size (.slice (some ⟨gb, 0, none⟩) (p.length + 9) gc) (F.set (4 + j) Y) ∧ Below w.heap.size w w3 :=
        ⟨_, bits_lo_u8 _ _ _, bits_hi_u8 _ _ _, by rw [hw3]; exact (show OwnB (w2.drewN nq) w1.heap.size (.slice (some ⟨gb, 0, none⟩) (p.length + 9) gc) F from HO2.out).set (4 + j) _, by rw [hw3]; exact (Below.drewN HB2.out nq).setCell (p := ⟨gb, 4 + j, none⟩) (Nat.le_trans HB1.out.size HGB.out) _⟩
      have HB3 := Lib.hid hB3
      have HO3 := Lib.hid hO3
      have HSL := Lib.hid (show (F.set (4 + j) Y).length = p.length + 9 by rw [List.length_set, HFL.out])
      have HSB := Lib.hid (HFB.out.set (4 + j) hY0 hY1)
      have hSY : (F.set (4 + j) Y).getD (4 + j) 0 = Y := by
        rw [List.getD_eq_getElem?_getD, List.getElem?_set_self (by rw [HFL.out]; omega)]; rfl
      have HSY := Lib.hid hSY
      clear hw3 hB3 hO3 hSY hcb hfb
      have cD := decodeTop_any _ (F.set (4 + j) Y) w3 (.inl HO3.out.bytes) HSB.out (by rw [HSL.out]; omega)
      by_cases hYz : Y = z
      · have hF : F.set (4 + j) Y = F := by rw [hYz, ← HZ.out]; exact set_self (by rw [HFL.out]; omega)
        have hD : decodeI (F.set (4 + j) Y) = (q + 1, p, 0) := by rw [hF]; exact HD.out
        rw [hD] at cD
        have CD := Lib.hid cD
        have hYe : (Y == z) = true := by simpa using hYz
        clear cD hF hD hYz HT HD
        refine CD.out.mono ?_; rintro e w4 ⟨v4, rfl, ho4, hb4⟩
        obtain ⟨g4, n4, c4, rfl⟩ : ∃ g n c, v4 = .slice g n c := by
          obtain ⟨g, c, h⟩ := ho4.slice
          exact ⟨g, _, c, h⟩
        have hcb4 := ((HO3.out.keep hb4).cell (4 + j) (by rw [HSL.out]; omega)).2.2.2.1
        rw [HSY.out] at hcb4
        have hcb5 : (w4.alloc (.cells #[.int .i64 (q + 1), .slice g4 n4 c4] 37)).cell? ⟨gb, 4 + j, none⟩ = some (.int .u8 Y) := by
          rw [World.cell?_of_block (w := w4) (Below.heap_alloc w4 _ gb ((HO3.out.keep hb4).lt gb rfl).2)]; exact hcb4
        have HB4 := Lib.hid (HB3.out.trans (hb4.mono HB3.out.size))
        clear ho4 hb4 hcb4
        go_wp2_with fail
        go_ret
        exact ⟨rfl, HB4.out.alloc HB4.out.size _⟩
      · have hne : Y ≠ F.getD (4 + j) 0 := by rw [HZ.out]; exact hYz
        have hYe : (Y == z) = false := by simpa using hYz
        rcases HT.out (4 + j) (by omega) (by omega) Y hY0 hY1 hne with hD | ⟨hj4, hD⟩
        · rw [hD] at cD
          have CD := Lib.hid cD
          clear cD hD hYz HT HD hne
          refine CD.out.mono ?_; rintro e w4 ⟨v4, rfl, ho4, hb4⟩
          obtain ⟨g4, c4, rfl⟩ : ∃ g c, v4 = .slice g 0 c := ho4.slice
          have hcb4 := ((HO3.out.keep hb4).cell (4 + j) (by rw [HSL.out]; omega)).2.2.2.1
          rw [HSY.out] at hcb4
          have hcb5 : (w4.alloc (.cells #[.int .i64 0, .slice g4 0 c4] 37)).cell? ⟨gb, 4 + j, none⟩ = some (.int .u8 Y) := by
            rw [World.cell?_of_block (w := w4) (Below.heap_alloc w4 _ gb ((HO3.out.keep hb4).lt gb rfl).2)]; exact hcb4
          have HB4 := Lib.hid (HB3.out.trans (hb4.mono HB3.out.size))
          clear ho4 hb4 hcb4
          go_wp2_with fail
          go_ret
          exact ⟨rfl, HB4.out.alloc HB4.out.size _⟩
        · rw [hD] at cD
          have CD := Lib.hid cD
          have hj0 : ((4 : Int) + (j : Int) == 4) = true := by rw [beq_iff_eq]; omega
          clear cD hD hYz HT HD hne hj4
          refine CD.out.mono ?_; rintro e w4 ⟨v4, rfl, ho4, hb4⟩
          obtain ⟨g4, c4, rfl⟩ : ∃ g c, v4 = .slice g 0 c := ho4.slice
          have hcb4 := ((HO3.out.keep hb4).cell (4 + j) (by rw [HSL.out]; omega)).2.2.2.1
          rw [HSY.out] at hcb4
          have hcb5 : (w4.alloc (.cells #[.int .i64 0, .slice g4 0 c4] 37)).cell? ⟨gb, 4 + j, none⟩ = some (.int .u8 Y) := by
            rw [World.cell?_of_block (w := w4) (Below.heap_alloc w4 _ gb ((HO3.out.keep hb4).lt gb rfl).2)]; exact hcb4
          have HB4 := Lib.hid (HB3.out.trans (hb4.mono HB3.out.size))
          clear ho4 hb4 hcb4
          go_wp2_with fail
          go_ret
          exact ⟨rfl, HB4.out.alloc HB4.out.size _⟩

set_option maxRecDepth 100000 in
theorem turned_lifted (os : Os) (started : os.Started) (H : Type) (enc : TypeId × Value → H) :
    ReturnsInHanded {} Try.checked os 8 .any (Rows.frameTurnedSpec.pre6 enc Try.prog Try.f8 Rows.frameTurnedRow.domain false) (Rows.frameTurnedSpec.post enc Try.prog Try.f8 false true false false) := by
  refine returnsInHanded_of_change (C := Try.checked) Try.own started (by kernel_rfl) Try.func8
    (ChangeSpec.witness6 (enc := enc) (C := Try.checked) false ⟨#[], #[.int .i64 0, .slice none 0 0, .agg #[.int .i64 0, .int .i64 0]], []⟩ 8 (by kernel_rfl) (by kernel_rfl) (by kernel_rfl) (by kernel_rfl)) ?_
  intro W base args ds gs before hval0 hW hcnd _
  have hval : ∀ (j : Nat) t v, Try.f8.params[j]? = some t → args[j]? = some v → Value.okWide Try.prog W .any base t v := hval0
  have hW' := hW
  obtain ⟨p, q, hA0, hV, hbe, hfz, hnd⟩ := hW
  have hA : DataW.TrodAll enc Try.prog W 0 (fun _ => true) true Try.f8.params.toList args.toList ds p := hA0
  rw [Try.params8] at hA hval
  obtain ⟨v0, v1, v2, d0, d1, d2, p0, p1, p2, rfl, rfl, rfl, h0, h1, h2⟩ := trodAll_three hA
  obtain ⟨a, rfl, _, _, _⟩ := open_int Try.underlying3 (hval 0 _ v0 rfl rfl) h0
  obtain ⟨z1, hb1, hl1, hy1⟩ := open_bytes Try.underlying30 Try.underlying5 byteCells (hval 1 _ v1 rfl rfl) h1
  obtain ⟨zs, rfl, hzl, _⟩ := open_array Try.underlying55 Try.underlying3 (by kernel_rfl) (by kernel_rfl) (hval 2 _ v2 rfl rfl) h2
  obtain ⟨x, y, rfl⟩ := two_of zs hzl
  clear hA0 hval0 hfz hnd
  refine (turned_any a v1 z1 x y W hb1 (fun z hz => wf_u8 (hy1 z hz)) hl1).mono fun e W' ⟨he, hb⟩ => ?_
  subst he
  obtain rfl : gs = [] := (trodVars_none hV).1
  exact ⟨_, rfl, law_post Try.laidOut hW' rfl (by rw [Try.params8]; decide +kernel) (tb := 4) rfl Try.underlying4 hb rfl⟩

theorem turned_holds : Rows.FrameTurnedSaid :=
  OpenClaim.holds_of_wide 8 Try.f8 rfl rfl rfl rfl rfl rfl rfl ⟨rfl, rfl, rfl, rfl, rfl⟩ rfl rfl rfl rfl rfl (by kernel_rfl) Try.func8 (by kernel_rfl)
    (of_decide_eq_true (by kernel_rfl)) (by unfold Func.isWrapper; first | (rw [if_pos (by decide +kernel)]; kernel_rfl) | (rw [if_neg (by decide +kernel)]; exact ⟨rfl, rfl⟩))
    (fun os started H enc _ => turned_lifted os started H enc)
end Go.Proofs.Yteccdbkgeomjeaa
