/- FrameParts: a payload in parts has the bytes of the payload as a whole; two payloads, or kinds, that differ have not. For all slices of bytes and pairs of numbers; no condition. -/
import Derived.Test.YteccdbkgeomjeaaFrL
import Derived.Test.YteccdbkgeomjeaaFrSums
namespace Go.Proofs.Yteccdbkgeomjeaa
open Go.RowKit Go.WideShapes Go.ChangeShapes Go.ChangeAt

set_option maxRecDepth 100000 in
set_option maxHeartbeats 8000000 in
theorem parts_any (v1 v2 : Value) (a b : List Int) (x y : Int) (w : World) (h1 : Bytes w v1 a) (h2 : Bytes w v2 b) (hy1 : Byt a) (hy2 : Byt b) (hl1 : a.length < 9223372036854775808) (hl2 : b.length < 9223372036854775808) :
    Calls Try.prog 9 #[v1, v2, .agg #[.int .i64 x, .int .i64 y]] w fun e w' => e = .returned (.bool true) ∧ Below w.heap.size w w' := by
  obtain ⟨a1, c1, rfl⟩ := h1.slice'
  obtain ⟨a2, c2, rfl⟩ := h2.slice'
  have hkA : Blk (w.alloc (.cells #[.int .i64 x, .int .i64 y] 55)) w.heap.size 55 [.int .i64 x, .int .i64 y] := Blk.new w 55 [.int .i64 x, .int .i64 y]
  have cx := hkA.cell (i := 0) rfl
  have cy := hkA.cell (i := 1) rfl
  have HA := Lib.hid h1
  have HB := Lib.hid h2
  have HYA := Lib.hid hy1
  have HYB := Lib.hid hy2
  clear h1 h2 hy1 hy2 hkA
  go_enter Try.func9, Try.ntmps9
  go_wp2_with fail
  go_quiet (fail)
  clear cx cy
  go_wp2_with fail
  refine calls_world fun wA hwA => ?_
  have hBA : Below w.heap.size w wA := by rw [hwA]; exact Below.drewN ((Below.refl _ _).alloc (Nat.le_refl _) _) _
  have HBA := Lib.hid hBA
  clear hwA hBA
  refine (awake_any _).mono ?_; rintro e w1 ⟨rfl, hb1⟩
  have HB1 := Lib.hid (HBA.out.trans (hb1.mono HBA.out.size))
  clear hb1
  by_cases hlong : 1000 < a.length ∨ 1000 < b.length
  · by_cases k1 : (1000 : Int) < a.length
    · go_wp2_with fail
      refine (awake_any _).mono ?_; rintro e w2 ⟨rfl, hb2⟩
      have HE := Lib.hid (HB1.out.trans (hb2.mono HB1.out.size))
      clear hb2
      go_wp2_with fail
      go_ret
      exact ⟨rfl, HE.out⟩
    · have k2 : (1000 : Int) < b.length := by omega
      go_wp2_with fail
      refine (awake_any _).mono ?_; rintro e w2 ⟨rfl, hb2⟩
      have HE := Lib.hid (HB1.out.trans (hb2.mono HB1.out.size))
      clear hb2
      go_wp2_with fail
      go_ret
      exact ⟨rfl, HE.out⟩
  obtain ⟨k1, k2⟩ : (¬ (1000 : Int) < a.length) ∧ (¬ (1000 : Int) < b.length) := by omega
  obtain ⟨q, hq, q0, q9⟩ := kind_of x
  have hux := u64_nonneg x
  have huy := u64_nonneg y
  obtain ⟨j, hj⟩ : ∃ j : Nat, IntKind.u64.wrap y % ((a.length : Int) + 1) = (j : Int) := ⟨(IntKind.u64.wrap y % ((a.length : Int) + 1)).toNat, by rw [Int.toNat_of_nonneg (Int.emod_nonneg _ (by omega))]⟩
  have hjl : j ≤ a.length := by have := Int.emod_lt_of_pos (IntKind.u64.wrap y) (show (0 : Int) < (a.length : Int) + 1 by omega); omega
  clear hlong hl1 hl2
  go_wp2_with fail
  refine (enc_one (q + 1) w1 (by omega) (by omega) (.inl HA.out) HYA.out (by omega) HB1.out).mono ?_; rintro e w2 ⟨vx, rfl, hox, hbx⟩
  obtain ⟨gx, nx, cx, rfl⟩ : ∃ g n c, vx = .slice g n c := by
    obtain ⟨g, c, h⟩ := hox.slice
    exact ⟨g, _, c, h⟩
  have HOX := Lib.hid hox
  have HB2 := Lib.hid (HB1.out.trans (hbx.mono HB1.out.size))
  clear hox hbx
  obtain ⟨sa, sc, hs1, hb1⟩ := slice_to (.inl HA.out) j hjl
  obtain ⟨ta, tc, hs2, hb2⟩ := slice_from (.inl HA.out) j (a.length - j) (by omega)
  have HS1 := Lib.hid hb1
  have HS2 := Lib.hid hb2
  clear hb1 hb2
  go_upto_region 7 with fail
  have hcat : (a.take j ++ [] ++ a.drop j) = a := by rw [List.append_nil, List.take_append_drop]
  have cY := enc_three (q + 1) w2.drew (by omega) (by omega) HS1.out (.inl (.inl ⟨rfl, rfl⟩) : BytesE w (.slice none 0 0) []) HS2.out (HYA.out.take j) Byt.nil (HYA.out.drop j) (by rw [List.length_take, List.length_drop]; simp; omega) HB2.out.drew
  rw [hcat] at cY
  have CY : Hid (Calls Try.prog 14 #[.int .i64 (q + 1), .slice (some ⟨w2.heap.size, 0, none⟩) 3 3] (w2.alloc (.cells #[.slice sa j sc, .slice none 0 0, .slice ta (a.length - j) tc] 30)).drew fun e w' => ∃ v', e = .returned (.tuple #[v', .int .i64 0]) ∧ OwnB w' w2.heap.size v' (frameI (q + 1) a) ∧ Below w2.heap.size w2.drew w') := cY
  clear cY hcat HS1 HS2
  go_region_held_law (fun _ => True) (trivial) (first | (go_simp; go_at_call 14; refine CY.out.mono ?_; rintro e w3 ⟨vy, rfl, hoy, hby⟩))
  obtain ⟨gy, ny, cy, rfl⟩ : ∃ g n c, vy = .slice g n c := by
    obtain ⟨g, c, h⟩ := hoy.slice
    exact ⟨g, _, c, h⟩
  have HOY := Lib.hid hoy
  have hb23 : Below w2.heap.size w2 w3 := (⟨rfl, rfl, rfl, Nat.le_refl _, fun _ _ => rfl⟩ : Below w2.heap.size w2 w2.drew).trans hby
  have HOX3 := Lib.hid (HOX.out.keep hb23)
  have HB3 := Lib.hid (HB2.out.trans (hb23.mono HB2.out.size))
  clear hoy hby hb23 CY HOX hs1 hs2
  go_wp2_with fail
  refine (enc_one _ w3 (by omega) (by omega) (.inl HA.out) HYA.out (by omega) HB3.out).mono ?_; rintro e w4 ⟨vz, rfl, hoz, hbz⟩
  obtain ⟨gz, nz, cz, rfl⟩ : ∃ g n c, vz = .slice g n c := by
    obtain ⟨g, c, h⟩ := hoz.slice
    exact ⟨g, _, c, h⟩
  have HOX4 := Lib.hid (HOX3.out.keep hbz)
  have HOY4 := Lib.hid (HOY.out.keep hbz)
  have HOZ := Lib.hid hoz
  have HB4 := Lib.hid (HB3.out.trans (hbz.mono HB3.out.size))
  clear hoz hbz HOX3 HOY
  go_wp2_with fail
  refine (enc_one _ w4 (by omega) (by omega) (.inl HB.out) HYB.out (by omega) HB4.out).mono ?_; rintro e w5 ⟨vw, rfl, how, hbw⟩
  obtain ⟨gw, nw, cw, rfl⟩ : ∃ g n c, vw = .slice g n c := by
    obtain ⟨g, c, h⟩ := how.slice
    exact ⟨g, _, c, h⟩
  have HB5 := Lib.hid (HB4.out.trans (hbw.mono HB4.out.size))
  have hsx := run_string (HOX4.out.keep hbw).bytes
  have hsy := run_string (HOY4.out.keep hbw).bytes
  have hsz := run_string (HOZ.out.keep hbw).bytes
  have hsw := run_string how.bytes
  have hsa := run_string (HA.out.below HB5.out)
  have hsb := run_string (HB.out.below HB5.out)
  have hfa := frameI_byt (k := q + 1) (by omega) (by omega) HYA.out
  have hfb := frameI_byt (k := q + 1) (by omega) (by omega) HYB.out
  have hfz := frameI_byt (k := (q + 1) % 9 + 1) (by omega) (by omega) HYA.out
  have hxz := str_ne hfa hfz (frame_ne (by omega) (by omega) (by omega) (by omega) HYA.out HYA.out (by omega) (by omega) (.inl (by omega)))
  by_cases hab : a = b
  · subst hab
    generalize strOfNums (frameI (q + 1) a) = X at *
    generalize strOfNums (frameI ((q + 1) % 9 + 1) a) = Z at *
    generalize strOfNums a = A at *
    clear hfa hfb hfz HOX4 HOY4 HOZ how hbw
    go_wp2_with fail
    go_ret
    exact ⟨rfl, HB5.out⟩
  · have hxw := str_ne hfa hfb (frame_ne (by omega) (by omega) (by omega) (by omega) HYA.out HYB.out (by omega) (by omega) (.inr hab))
    have hsab := str_ne HYA.out HYB.out hab
    generalize strOfNums (frameI (q + 1) a) = X at *
    generalize strOfNums (frameI (q + 1) b) = W at *
    generalize strOfNums (frameI ((q + 1) % 9 + 1) a) = Z at *
    generalize strOfNums a = A at *
    generalize strOfNums b = B at *
    clear hfa hfb hfz HOX4 HOY4 HOZ how hbw hab
    go_wp2_with fail
    go_ret
    exact ⟨rfl, HB5.out⟩

set_option maxRecDepth 100000 in
theorem parts_lifted (os : Os) (started : os.Started) (H : Type) (enc : TypeId × Value → H) :
    ReturnsInHanded {} Try.checked os 9 .any (Rows.framePartsSpec.pre6 enc Try.prog Try.f9 Rows.framePartsRow.domain false) (Rows.framePartsSpec.post enc Try.prog Try.f9 false true false false) := by
  refine returnsInHanded_of_change (C := Try.checked) Try.own started (by kernel_rfl) Try.func9
    (ChangeSpec.witness6 (enc := enc) (C := Try.checked) false ⟨#[], #[.slice none 0 0, .slice none 0 0, .agg #[.int .i64 0, .int .i64 0]], []⟩ 8 (by kernel_rfl) (by kernel_rfl) (by kernel_rfl) (by kernel_rfl)) ?_
  intro W base args ds gs before hval0 hW hcnd _
  have hval : ∀ (j : Nat) t v, Try.f9.params[j]? = some t → args[j]? = some v → Value.okWide Try.prog W .any base t v := hval0
  have hW' := hW
  obtain ⟨p, q, hA0, hV, hbe, hfz, hnd⟩ := hW
  have hA : DataW.TrodAll enc Try.prog W 0 (fun _ => true) true Try.f9.params.toList args.toList ds p := hA0
  rw [Try.params9] at hA hval
  obtain ⟨v0, v1, v2, d0, d1, d2, p0, p1, p2, rfl, rfl, rfl, h0, h1, h2⟩ := trodAll_three hA
  obtain ⟨z0, hb0, hl0, hy0⟩ := open_bytes Try.underlying30 Try.underlying5 byteCells (hval 0 _ v0 rfl rfl) h0
  obtain ⟨z1, hb1, hl1, hy1⟩ := open_bytes Try.underlying30 Try.underlying5 byteCells (hval 1 _ v1 rfl rfl) h1
  obtain ⟨zs, rfl, hzl, _⟩ := open_array Try.underlying55 Try.underlying3 (by kernel_rfl) (by kernel_rfl) (hval 2 _ v2 rfl rfl) h2
  obtain ⟨x, y, rfl⟩ := two_of zs hzl
  clear hA0 hval0 hfz hnd
  refine (parts_any v0 v1 z0 z1 x y W hb0 hb1 (fun z hz => wf_u8 (hy0 z hz)) (fun z hz => wf_u8 (hy1 z hz)) hl0 hl1).mono fun e W' ⟨he, hb⟩ => ?_
  subst he
  obtain rfl : gs = [] := (trodVars_none hV).1
  exact ⟨_, rfl, law_post Try.laidOut hW' rfl (by rw [Try.params9]; decide +kernel) (tb := 4) rfl Try.underlying4 hb rfl⟩

theorem parts_holds : Rows.FramePartsSaid :=
  OpenClaim.holds_of_wide 9 Try.f9 rfl rfl rfl rfl rfl rfl rfl ⟨rfl, rfl, rfl, rfl, rfl⟩ rfl rfl rfl rfl rfl (by kernel_rfl) Try.func9 (by kernel_rfl)
    (of_decide_eq_true (by kernel_rfl)) (by unfold Func.isWrapper; first | (rw [if_pos (by decide +kernel)]; kernel_rfl) | (rw [if_neg (by decide +kernel)]; exact ⟨rfl, rfl⟩))
    (fun os started H enc _ => parts_lifted os started H enc)
end Go.Proofs.Yteccdbkgeomjeaa
