/- FrameWrites: any frame is written as its bytes and read back, or it is told what is wrong. For every kind and list of parts; no condition. -/
import Derived.Test.YteccdbkgeomjeaaFrK
import Derived.Test.YteccdbkgeomjeaaFrSums
namespace Go.Proofs.Yteccdbkgeomjeaa
open Go.RowKit Go.WideShapes Go.ChangeShapes Go.ChangeAt

set_option maxRecDepth 100000 in
set_option maxHeartbeats 8000000 in
theorem writes_any (k : Int) (v : Value) (ps : List (List Int)) (w : World) (hp : PartsOk w v ps) :
    Calls Try.prog 4 #[.int .i64 k, v] w fun e w' => e = .returned (.bool true) ∧ Below w.heap.size w w' := by
  obtain ⟨qa, cap, rfl, _⟩ := hp.parts.open
  have HP := Lib.hid hp
  clear hp
  have cJ := joined_any 9000 (by omega) _ ps w HP.out.parts HP.out.len (fun i hi => (HP.out.each i hi).1)
  by_cases hc : ps.length ≤ 50 ∧ ps.flatten.length ≤ 9000
  · have hR : joinR 9000 ps = .tuple #[.string (strOfNums ps.flatten), .bool true] := by unfold joinR; rw [if_pos hc]
    rw [hR] at cJ
    have CJ : Hid (Calls Try.prog 10 #[.slice qa ps.length cap, .int .i64 9000] w fun e w' => e = .returned (.tuple #[.string (strOfNums ps.flatten), .bool true]) ∧ w = w') := cJ
    have hby : Byt ps.flatten := Byt.flat fun i hi => (HP.out.each i hi).2
    have hq : ∀ i, i < ps.length → (ps.getD i []).length < 1000000000000 ∧ Byt (ps.getD i []) := fun i hi => ⟨by have := part_le ps i hi; omega, (HP.out.each i hi).2⟩
    have HQ := Lib.hid hq
    have HBY := Lib.hid hby
    have hps : ps.length < 9223372036854775807 := by omega
    clear cJ hR hby hq
    by_cases hk : 1 ≤ k ∧ k ≤ 9
    · by_cases hn : ps.flatten.length ≤ 8192
      · have CE := Lib.hid (fun (w' : World) (hb : Below w.heap.size w w') => encode_any k _ ps w' hk.1 hk.2 (HP.out.parts.below hb) hps HQ.out hn)
        have CR := Lib.hid (fun (w' : World) => refEncode_any k ps.flatten w' hk.1 hk.2 HBY.out hn)
        have HDF := Lib.hid (decodeI_frame hk.1 hk.2 HBY.out hn)
        have HFB := Lib.hid (frameI_byt hk.1 hk.2 HBY.out)
        have HFL := Lib.hid (frameI_length k ps.flatten)
        generalize frameI k ps.flatten = F at *
        have hsz : (strOfNums F).size = F.length := strOfNums_size F
        obtain ⟨FS, hFS⟩ : ∃ FS, FS = strOfNums F := ⟨_, rfl⟩
        rw [← hFS] at CR hsz
        have HFS := Lib.hid hFS
        generalize ps.flatten = p at *
        obtain ⟨S, hS⟩ : ∃ S, S = strOfNums p := ⟨_, rfl⟩
        rw [← hS] at CJ CR
        have HS := Lib.hid hS
        clear hFS hS hc hk hsz
        go_enter Try.func4, Try.ntmps4
        go_wp2_with fail
        refine CJ.out.mono ?_; rintro e w' ⟨rfl, rfl⟩
        go_wp2_with fail
        refine (awake_any _).mono ?_; rintro e w1 ⟨rfl, hb1⟩
        have HB1 := Lib.hid hb1
        clear hb1
        go_wp2_with fail
        refine (CE.out _ HB1.out).mono ?_; rintro e w2 ⟨v1, rfl, ho2, hb2⟩
        obtain ⟨g1, c1, rfl⟩ := ho2.slice
        have HO2 := Lib.hid ho2
        have HB2 := Lib.hid (HB1.out.trans (hb2.mono HB1.out.size))
        clear ho2 hb2
        go_wp2_with fail
        refine (CR.out _).mono ?_; rintro e w3 ⟨rfl, hb3⟩
        have ho3 := HO2.out.keep hb3
        have hby3 := ho3.bytes
        have hcv := run_string hby3
        rw [← HFS.out] at hcv
        have HBY3 := Lib.hid hby3
        have HB3 := Lib.hid (HB2.out.trans (hb3.mono HB2.out.size))
        clear ho3 hby3 hb3
        go_wp2_with fail
        refine (decodeTop_any _ F w3 (.inl HBY3.out) HFB.out (by rw [HFL.out]; omega)).mono ?_; rintro e w4 ⟨v4, rfl, ho4, hb4⟩
        rw [HDF.out] at ho4 ⊢
        obtain ⟨g4, c4, rfl⟩ := ho4.slice
        have HO4 := Lib.hid ho4
        have HB4 := Lib.hid hb4
        have hz4 := hb4.size
        clear ho4 hb4 hcv
        go_upto_region 11 with fail
        refine wp_world fun w5 hw5 => ?_
        have hb45 : Below w4.heap.size w4 w5 := by rw [hw5]; exact (Below.refl _ _).alloc (Nat.le_refl _) _
        have hk5 : Blk w5 w4.heap.size 37 [.int .i64 k, .slice g4 p.length c4] := by rw [hw5]; exact Blk.new w4 37 [.int .i64 k, .slice g4 p.length c4]
        have hO5 := HO4.out.keep hb45
        have hb5 : Below w3.heap.size w3 w5 := HB4.out.trans (hb45.mono hz4)
        have hlt : ∀ x, (Value.slice g4 p.length c4).ownBlock = some x → w3.heap.size ≤ x ∧ x < w4.heap.size := fun x hx => HO4.out.lt x hx
        have c0 := hk5.cell (i := 0) rfl
        have c1 := hk5.cell (i := 1) rfl
        have hcv5 := run_string hO5.bytes
        rw [← HS.out] at hcv5
        have HK5 := Lib.hid hk5
        have HO5 := Lib.hid hO5
        have HB5 := Lib.hid hb5
        have HLT := Lib.hid hlt
        clear hw5 hb45 hk5 hO5 hb5 hlt
        go_wp2_with fail
        clear c0 c1 hcv5
        go_loopw [13, 72] (fun _ s72 wr => ∃ (i : Nat) (qs : List Int), i ≤ p.length ∧ s72 = .int .i64 i ∧ qs.length = p.length ∧ OwnB wr w3.heap.size (.slice g4 p.length c4) qs ∧ Blk wr w4.heap.size 37 [.int .i64 k, .slice g4 p.length c4] ∧ Below w3.heap.size w3 wr)
          (fun _ s72 _ => p.length - (intOf s72).toNat)
        case atStart => exact ⟨0, p, by omega, rfl, rfl, HO5.out, HK5.out, HB5.out⟩
        case round =>
          obtain ⟨i, qs, hi, rfl, hql, hO, hK, hB⟩ := hrel
          have c1 := hK.cell (i := 1) rfl
          by_cases hlt : i < p.length
          · have hsome : ∃ a, g4 = some a := by
              cases g4 with
              | some a => exact ⟨a, rfl⟩
              | none => 
                rcases hO.2 with ⟨_, h0⟩ | ⟨x, cap, cur, h1, _⟩
                · omega
                · cases h1
            obtain ⟨⟨gb, go, gs⟩, rfl⟩ := hsome
            have hcell := hO.cell i (by omega)
            obtain ⟨hoff, hspot, hbase, hcx, hfx⟩ := hcell
            simp only at hoff hspot hbase hcx hfx
            subst hoff hspot
            have hgl := (HLT.out gb rfl).2
            have HQL := Lib.hid hql
            have HO := Lib.hid hO
            have HK := Lib.hid hK
            have HB := Lib.hid hB
            have HBS := Lib.hid hbase
            have HGL := Lib.hid hgl
            clear hql hO hK hB hbase hgl
            generalize qs.getD i 0 = x at *
            go_wp2_with fail
            go_roundw
            case rel => exact ⟨i + 1, qs.set i _, by omega, by go_num, by rw [List.length_set]; exact HQL.out, HO.out.set i _, HK.out.set_other (a := ⟨gb, i, none⟩) (by have := HGL.out; show w4.heap.size ≠ gb; omega) _, HB.out.setCell (p := ⟨gb, i, none⟩) HBS.out _⟩
            case measure => simp [intOf]; omega
          · obtain rfl : i = p.length := by omega
            have HQL := Lib.hid hql
            have HO := Lib.hid hO
            have HK := Lib.hid hK
            have HB := Lib.hid hB
            clear hql hO hK hB
            go_wp2_with (with_reducible refine wpList_append_bytes rfl (.tmp 84) (.tmp 85) rfl w3.heap.size (.slice g4 p.length c4) qs ?_ (HO.out.alloc _) wr.heap.size 0 1 1 [1] ?_ rfl one_range ?_ ?_ ?_)
            case refine_1 => rfl
            case refine_2 => rfl
            case refine_3 => rw [HQL.out]; omega
            case refine_4 => have := HB.out.size; simp; omega
            intro v6 w6 hown6 hg6
            have hal : Below wr.heap.size wr (wr.alloc (.cells #[.int .u8 1] 5)) := (Below.refl _ _).alloc (Nat.le_refl _) _
            have hk6 : Blk w6 w4.heap.size 37 [.int .i64 k, .slice g4 p.length c4] := by
              unfold Blk
              rw [hg6.block _ ((HK.out.alloc _).lt) (fun e => by have := (HLT.out _ e.symm).2; omega)]
              exact HK.out.alloc _
            have hB6 : Below w3.heap.size w3 w6 := (HB.out.trans (hal.mono HB.out.size)).trans ((HO.out.alloc _).below hg6 (Nat.le_trans HB.out.size hal.size))
            have hB7 := hB6.setCell (p := ⟨w4.heap.size, 1, none⟩) hz4 v6
            obtain ⟨g6, n6, c6, rfl⟩ : ∃ g n c, v6 = .slice g n c := by
              obtain ⟨g, c, h⟩ := hown6.slice
              exact ⟨g, _, c, h⟩
            have c1 := hk6.cell (i := 1) rfl
            have f1 := hk6.frozen 1
            have hcv7 := run_string (HBY3.out.below hB7)
            rw [← HFS.out] at hcv7
            have HB7 := Lib.hid hB7
            clear hown6 hg6 hk6 hB6 hB7 hal
            go_wp2_with fail
            go_ret
            exact ⟨rfl, HB3.out.trans (HB7.out.mono HB3.out.size)⟩
      · have CE := Lib.hid (fun (w' : World) (hb : Below w.heap.size w w') => encode_long k _ ps w' hk (HP.out.parts.below hb) hps (fun i hi => (HQ.out i hi).1) (by omega))
        have CR := Lib.hid (fun (w' : World) => refEncode_long k (strOfNums ps.flatten) w' hk.1 hk.2 _ (strOfNums_size _) (by omega))
        generalize strOfNums ps.flatten = S at *
        clear hc hk
        go_enter Try.func4, Try.ntmps4
        go_wp2_with fail
        refine CJ.out.mono ?_; rintro e w' ⟨rfl, rfl⟩
        go_wp2_with fail
        refine (awake_any _).mono ?_; rintro e w1 ⟨rfl, hb1⟩
        have HB1 := Lib.hid hb1
        clear hb1
        go_wp2_with fail
        refine (CE.out _ HB1.out).mono ?_; rintro e w2 ⟨rfl, rfl⟩
        have hcv : (convert 30 9 (.slice none 0 0)).run Try.prog w1 = .ok (.string ⟨#[]⟩) w1 := run_string (w := w1) (v := .slice none 0 0) (p := []) (.inl ⟨rfl, rfl⟩)
        go_wp2_with fail
        refine (CR.out _).mono ?_; rintro e w3 ⟨rfl, rfl⟩
        go_wp2_with fail
        go_ret
        exact ⟨rfl, HB1.out⟩
    · have CE := Lib.hid (fun (w' : World) (hb : Below w.heap.size w w') => encode_bad k _ ps w' hk (HP.out.parts.below hb))
      have CR := Lib.hid (fun (w' : World) => refEncode_bad k (strOfNums ps.flatten) w' hk)
      generalize strOfNums ps.flatten = S at *
      clear hc hk
      go_enter Try.func4, Try.ntmps4
      go_wp2_with fail
      refine CJ.out.mono ?_; rintro e w' ⟨rfl, rfl⟩
      go_wp2_with fail
      refine (awake_any _).mono ?_; rintro e w1 ⟨rfl, hb1⟩
      have HB1 := Lib.hid hb1
      clear hb1
      go_wp2_with fail
      refine (CE.out _ HB1.out).mono ?_; rintro e w2 ⟨rfl, rfl⟩
      have hcv : (convert 30 9 (.slice none 0 0)).run Try.prog w1 = .ok (.string ⟨#[]⟩) w1 := run_string (w := w1) (v := .slice none 0 0) (p := []) (.inl ⟨rfl, rfl⟩)
      go_wp2_with fail
      refine (CR.out _).mono ?_; rintro e w3 ⟨rfl, rfl⟩
      go_wp2_with fail
      go_ret
      exact ⟨rfl, HB1.out⟩
  · have hR : joinR 9000 ps = .tuple #[.string ⟨#[]⟩, .bool false] := by unfold joinR; rw [if_neg hc]
    rw [hR] at cJ
    have CJ : Hid (Calls Try.prog 10 #[.slice qa ps.length cap, .int .i64 9000] w fun e w' => e = .returned (.tuple #[.string ⟨#[]⟩, .bool false]) ∧ w = w') := cJ
    clear cJ hR hc
    go_enter Try.func4, Try.ntmps4
    go_wp2_with fail
    refine CJ.out.mono ?_; rintro e w' ⟨rfl, rfl⟩
    go_wp2_with fail
    refine (awake_any _).mono ?_; rintro e w1 ⟨rfl, hb1⟩
    go_wp2_with fail
    refine (awake_any _).mono ?_; rintro e w2 ⟨rfl, hb2⟩
    go_wp2_with fail
    go_ret
    exact ⟨rfl, hb1.trans (hb2.mono hb1.size)⟩

set_option maxRecDepth 100000 in
theorem writes_lifted (os : Os) (started : os.Started) (H : Type) (enc : TypeId × Value → H) :
    ReturnsInHanded {} Try.checked os 4 .any (Rows.frameWritesSpec.pre6 enc Try.prog Try.f4 Rows.frameWritesRow.domain false) (Rows.frameWritesSpec.post enc Try.prog Try.f4 false true false false) := by
  refine returnsInHanded_of_change (C := Try.checked) Try.own started (by kernel_rfl) Try.func4
    (ChangeSpec.witness6 (enc := enc) (C := Try.checked) false ⟨#[], #[.int .i64 0, .slice none 0 0], []⟩ 8 (by kernel_rfl) (by kernel_rfl) (by kernel_rfl) (by kernel_rfl)) ?_
  intro W base args ds gs before hval0 hW hcnd _
  have hval : ∀ (j : Nat) t v, Try.f4.params[j]? = some t → args[j]? = some v → Value.okWide Try.prog W .any base t v := hval0
  have hW' := hW
  obtain ⟨p, q, hA0, hV, hbe, hfz, hnd⟩ := hW
  have hA : DataW.TrodAll enc Try.prog W 0 (fun _ => true) true Try.f4.params.toList args.toList ds p := hA0
  rw [Try.params4] at hA hval
  obtain ⟨v0, v1, d0, d1, p0, p1, rfl, rfl, _, h0, h1⟩ := trodAll_two hA
  obtain ⟨a, rfl, _, _, _⟩ := open_int Try.underlying3 (hval 0 _ v0 rfl rfl) h0
  obtain ⟨zs, hb, hzl, hq⟩ := open_parts Try.underlying22 Try.underlying30 Try.underlying5 (by kernel_rfl) byteCells (hval 1 _ v1 rfl rfl) h1
  clear hA0 hval0 hfz hnd
  refine (writes_any a v1 zs W ⟨hb, hzl, hq⟩).mono fun e W' ⟨he, hb⟩ => ?_
  subst he
  obtain rfl : gs = [] := (trodVars_none hV).1
  exact ⟨_, rfl, law_post Try.laidOut hW' rfl (by rw [Try.params4]; decide +kernel) (tb := 4) rfl Try.underlying4 hb rfl⟩

theorem writes_holds : Rows.FrameWritesSaid :=
  OpenClaim.holds_of_wide 4 Try.f4 rfl rfl rfl rfl rfl rfl rfl ⟨rfl, rfl, rfl, rfl, rfl⟩ rfl rfl rfl rfl rfl (by kernel_rfl) Try.func4 (by kernel_rfl)
    (of_decide_eq_true (by kernel_rfl)) (by unfold Func.isWrapper; first | (rw [if_pos (by decide +kernel)]; kernel_rfl) | (rw [if_neg (by decide +kernel)]; exact ⟨rfl, rfl⟩))
    (fun os started H enc _ => writes_lifted os started H enc)
end Go.Proofs.Yteccdbkgeomjeaa
