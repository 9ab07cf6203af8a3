/- FrameReads: of any bytes it is told whose frame they are, or what is wrong; they stay. For all slices of bytes; no condition. -/
import Derived.Test.YteccdbkgeomjeaaFrM
import Derived.Test.YteccdbkgeomjeaaFrSums
namespace Go.Proofs.Yteccdbkgeomjeaa
open Go.RowKit Go.WideShapes Go.ChangeShapes Go.ChangeAt

set_option maxRecDepth 100000 in
set_option maxHeartbeats 8000000 in
theorem reads_any (v : Value) (p : List Int) (w : World) (hp : Bytes w v p) (hy : Byt p) (hm : p.length < 9223372036854775808) :
    Calls Try.prog 5 #[v] w fun e w' => e = .returned (.bool true) ∧ Below w.heap.size w w' := by
  obtain ⟨va, vc, rfl⟩ := hp.slice'
  have HP := Lib.hid hp
  have HY := Lib.hid hy
  clear hp hy
  go_enter Try.func5, Try.ntmps5
  go_wp2_with fail
  refine (awake_any _).mono ?_; rintro e w1 ⟨rfl, hb1⟩
  have HB1 := Lib.hid hb1
  clear hb1
  by_cases hlong : (9000 : Int) < p.length
  · go_wp2_with fail
    refine (awake_any _).mono ?_; rintro e w2 ⟨rfl, hb2⟩
    have HE := Lib.hid (HB1.out.trans (hb2.mono HB1.out.size))
    clear hb2
    go_wp2_with fail
    go_ret
    exact ⟨rfl, HE.out⟩
  · have hl : p.length ≤ 9000 := by omega
    have HL := Lib.hid hl
    clear hl
    have hown0 : OwnB (w1.alloc (.cells #[] 5)) w1.heap.size (.slice (some ⟨w1.heap.size, 0, none⟩) 0 0) [] := World.ownsRow_lit w1 #[] 0 (Nat.le_refl _) (by unfold maxLen; omega) rfl
    have hB2 : Below w.heap.size w (w1.alloc (.cells #[] 5)) := HB1.out.alloc HB1.out.size _
    have HO := Lib.hid hown0
    have HB2 := Lib.hid hB2
    have hbs : w1.heap.size ≤ (w1.alloc (.cells #[] 5)).heap.size := by simp
    have HBS := Lib.hid hbs
    clear hown0 hB2 hbs
    go_wp2_with (with_reducible refine wpList_append_bytesArg rfl (.tmp 16) (.tmp 17) rfl w1.heap.size _ _ [] p ?_ HO.out ?_ HP.out HB2.out ?_ HBS.out ?_)
    case refine_1 => rfl
    case refine_2 => rfl
    case refine_3 => have := HL.out; simp; omega
    intro v3 w3 hown3 hg3
    have hB3 : Below w.heap.size w w3 := HB2.out.trans ((HO.out.below hg3 HBS.out).mono HB1.out.size)
    obtain ⟨ga, gc, rfl⟩ := hown3.slice
    have HO3 : Hid (OwnB w3 w1.heap.size (.slice ga p.length gc) p) := hown3
    have HB3 := Lib.hid hB3
    clear hown3 hg3 hB3 HO HB2 HBS
    have cD := decodeTop_any _ p w3 (.inl HO3.out.bytes) HY.out (by have := HL.out; omega)
    have cR := fun w' => refDecode_any p w' HY.out (by have := HL.out; omega)
    generalize decodeI p = r at *
    obtain ⟨rk, rp, rc⟩ := r
    simp only at cD cR
    have CD := Lib.hid cD
    have CR := Lib.hid cR
    clear cD cR
    go_wp2_with fail
    refine CD.out.mono ?_; rintro e w4 ⟨v4, rfl, ho4, hb4⟩
    obtain ⟨g4, n4, c4, rfl⟩ : ∃ g n c, v4 = .slice g n c := by
      obtain ⟨g, c, h⟩ := ho4.slice
      exact ⟨g, _, c, h⟩
    have HO4 := Lib.hid ho4
    have HB4 := Lib.hid hb4
    have HBW := Lib.hid (HB3.out.trans (hb4.mono HB3.out.size))
    clear ho4 hb4
    go_upto_region 5 with fail
    refine wp_world fun w5 hw5 => ?_
    have hb45 : Below w4.heap.size w4 w5 := by rw [hw5]; exact (Below.refl _ _).alloc (Nat.le_refl _) _
    have hk5 : Blk w5 w4.heap.size 37 [.int .i64 rk, .slice g4 n4 c4] := by rw [hw5]; exact Blk.new w4 37 [.int .i64 rk, .slice g4 n4 c4]
    have HO5 := Lib.hid (HO4.out.keep hb45)
    have HB5 := Lib.hid (HBW.out.trans (hb45.mono HBW.out.size))
    have HI5 := Lib.hid (HO3.out.keep (HB4.out.trans (hb45.mono HB4.out.size)))
    have hcv := run_string (HP.out.below HB5.out)
    have HK5 := Lib.hid hk5
    clear hw5 hb45 hk5
    go_wp2_with fail
    refine (CR.out _).mono ?_; rintro e w6 ⟨rfl, hb6⟩
    have HK6 := Lib.hid (Below.blk hb6 HK5.out.lt HK5.out)
    have HO6 := Lib.hid (HO5.out.keep hb6)
    have HI6 := Lib.hid (HI5.out.keep hb6)
    have HB6 := Lib.hid (HB5.out.trans (hb6.mono HB5.out.size))
    clear hb6 hcv
    go_upto_region 6 with fail
    refine wp_world fun w7 hw7 => ?_
    have hb67 : Below w6.heap.size w6 w7 := by rw [hw7]; exact (Below.refl _ _).alloc (Nat.le_refl _) _
    have hk7 : Blk w7 w6.heap.size 42 [.int .i64 rk, .string (strOfNums rp)] := by rw [hw7]; exact Blk.new w6 42 [.int .i64 rk, .string (strOfNums rp)]
    have hk4 := Below.blk hb67 HK6.out.lt HK6.out
    have c0 := hk4.cell (i := 0) rfl
    have c1 := hk4.cell (i := 1) rfl
    have d0 := hk7.cell (i := 0) rfl
    have d1 := hk7.cell (i := 1) rfl
    have hcv1 := run_string (HO6.out.keep hb67).bytes
    have hcv2 := run_string (HI6.out.keep hb67).bytes
    have HB7 := Lib.hid (HB6.out.trans (hb67.mono HB6.out.size))
    have hcv3 := run_string (HP.out.below HB7.out)
    clear hw7 hb67 hk7 hk4
    go_wp2_with fail
    go_ret
    exact ⟨rfl, HB7.out⟩

set_option maxRecDepth 100000 in
theorem reads_lifted (os : Os) (started : os.Started) (H : Type) (enc : TypeId × Value → H) :
    ReturnsInHanded {} Try.checked os 5 .any (Rows.frameReadsSpec.pre6 enc Try.prog Try.f5 Rows.frameReadsRow.domain false) (Rows.frameReadsSpec.post enc Try.prog Try.f5 false true false false) := by
  refine returnsInHanded_of_change (C := Try.checked) Try.own started (by kernel_rfl) Try.func5
    (ChangeSpec.witness6 (enc := enc) (C := Try.checked) false ⟨#[], #[.slice none 0 0], []⟩ 8 (by kernel_rfl) (by kernel_rfl) (by kernel_rfl) (by kernel_rfl)) ?_
  intro W base args ds gs before hval0 hW hcnd _
  have hval : ∀ (j : Nat) t v, Try.f5.params[j]? = some t → args[j]? = some v → Value.okWide Try.prog W .any base t v := hval0
  have hW' := hW
  obtain ⟨p, q, hA0, hV, hbe, hfz, hnd⟩ := hW
  have hA : DataW.TrodAll enc Try.prog W 0 (fun _ => true) true Try.f5.params.toList args.toList ds p := hA0
  rw [Try.params5] at hA hval
  obtain ⟨v0, d0, rfl, rfl, h0⟩ := trodAll_one hA
  obtain ⟨zs, hb, hzl, hy⟩ := open_bytes Try.underlying30 Try.underlying5 byteCells (hval 0 _ v0 rfl rfl) h0
  clear hA0 hval0 hfz hnd
  refine (reads_any v0 zs W hb (fun z hz => wf_u8 (hy z hz)) hzl).mono fun e W' ⟨he, hb⟩ => ?_
  subst he
  obtain rfl : gs = [] := (trodVars_none hV).1
  exact ⟨_, rfl, law_post Try.laidOut hW' rfl (by rw [Try.params5]; decide +kernel) (tb := 4) rfl Try.underlying4 hb rfl⟩

theorem reads_holds : Rows.FrameReadsSaid :=
  OpenClaim.holds_of_wide 5 Try.f5 rfl rfl rfl rfl rfl rfl rfl ⟨rfl, rfl, rfl, rfl, rfl⟩ rfl rfl rfl rfl rfl (by kernel_rfl) Try.func5 (by kernel_rfl)
    (of_decide_eq_true (by kernel_rfl)) (by unfold Func.isWrapper; first | (rw [if_pos (by decide +kernel)]; kernel_rfl) | (rw [if_neg (by decide +kernel)]; exact ⟨rfl, rfl⟩))
    (fun os started H enc _ => reads_lifted os started H enc)
end Go.Proofs.Yteccdbkgeomjeaa
