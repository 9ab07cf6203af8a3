/- DigestParses: of any text it is told whose digest it is, or that it is none's. For every text; no condition. -/
import Derived.Test.YtigpccfglicjeaaRefParse
namespace Go.Proofs.Ytigpccfglicjeaa
open Go.RowKit Go.WideShapes Go.ChangeShapes Go.ChangeAt

/-- A text as the numbers of its bytes. -/
theorem str_nums (s : ByteArray) : ∃ z : List Int, strOfNums z = s ∧ ∀ i, 0 ≤ z.getD i 0 ∧ z.getD i 0 ≤ 255 := by
  refine ⟨s.data.toList.map fun b => (b.toNat : Int), ?_, fun i => ?_⟩
  · apply ByteArray.ext
    show ((s.data.toList.map fun b => (b.toNat : Int)).map fun n => UInt8.ofNat n.toNat).toArray = s.data
    rw [List.map_map]
    have : ((fun n : Int => UInt8.ofNat n.toNat) ∘ fun b : UInt8 => (b.toNat : Int)) = id := by funext b; simp
    rw [this]; simp
  · rw [List.getD_eq_getElem?_getD, List.getElem?_map]
    cases h : s.data.toList[i]? with
    | none => simp
    | some b => simp; have := b.toNat_lt; omega
theorem textI_bytesP (z : List Int) (hl : z.length = 64) (hg : (List.range 32).all (goodP z) = true) : textI (bytesP z) = z := by
  have hlen : (textI (bytesP z)).length = 64 := by rw [textI_length, bytesP_length]
  have hat := textI_at (bytesP z)
  have key : ∀ j, j < 64 → (textI (bytesP z)).getD j 0 = z.getD j 0 := by
    intro j hj
    obtain ⟨i, hi⟩ : ∃ i, i = j / 2 := ⟨_, rfl⟩
    have hi32 : i < 32 := by omega
    obtain ⟨a, b⟩ := hat i (by rw [bytesP_length]; omega)
    have hb := bytesP_get z i hi32
    have hgi : goodP z i = true := List.all_eq_true.1 hg i (List.mem_range.2 hi32)
    unfold goodP at hgi
    have hx := undig_bounds (z.getD (2 * i) 0)
    have hy := undig_bounds (z.getD (2 * i + 1) 0)
    have h1 : (hiP z i).2 = true := by revert hgi; cases (hiP z i).2 <;> simp
    have h2 : (loP z i).2 = true := by revert hgi; cases (loP z i).2 <;> simp
    have d1 := dig_undig _ h1
    have d2 := dig_undig _ h2
    rw [hb] at a b
    unfold byteP at a b
    simp only [hiP, loP] at a b
    rw [show ((undig (z.getD (2 * i) 0)).1 * 16 + (undig (z.getD (2 * i + 1) 0)).1) / 16 = (undig (z.getD (2 * i) 0)).1 by omega, d1] at a
    rw [show ((undig (z.getD (2 * i) 0)).1 * 16 + (undig (z.getD (2 * i + 1) 0)).1) % 16 = (undig (z.getD (2 * i + 1) 0)).1 by omega, d2] at b
    by_cases he : j = 2 * i
    · rw [he]; exact a
    · have : j = 2 * i + 1 := by omega
      rw [this]; exact b
  apply List.ext_getElem?
  intro j
  by_cases hj : j < 64
  · have := key j hj
    rw [List.getD_eq_getElem?_getD, List.getD_eq_getElem?_getD, List.getElem?_eq_getElem (by omega), List.getElem?_eq_getElem (by omega)] at this
    rw [List.getElem?_eq_getElem (by omega), List.getElem?_eq_getElem (by omega)]
    exact congrArg some this
  · rw [List.getElem?_eq_none (by omega), List.getElem?_eq_none (by omega)]

set_option maxHeartbeats 4000000 in
theorem parses_any (z : List Int) (hb : ∀ i, 0 ≤ z.getD i 0 ∧ z.getD i 0 ≤ 255) (w : World) :
    Calls Try.prog 6 #[.string (strOfNums z)] w fun e w' => e = .returned (.bool true) ∧ Below w.heap.size w w' := by
  have hsz : (strOfNums z).size = z.length := strOfNums_size z
  go_enter Try.func6, Try.ntmps6
  have HBD := Lib.hid hb
  clear hb
  by_cases hlong : 1000 < z.length
  · go_wp2_with fail
    refine (awake_any _).mono ?_; rintro e w1 ⟨rfl, hb1⟩
    go_wp2_with fail
    refine (awake_any _).mono ?_; rintro e w2 ⟨rfl, hb2⟩
    go_wp2_with fail
    go_ret
    exact ⟨rfl, hb1.trans (hb2.mono hb1.size)⟩
  · have hz1 : z.length ≤ 1000 := by omega
    have cP := fun W => parse_any z HBD.out hz1 W
    have cR := fun W => refParse_any z HBD.out hz1 W
    by_cases hc : z.length = 64 ∧ (List.range 32).all (goodP z) = true
    · have e1 : parsed z = (bytesP z, 0) := by unfold parsed; rw [if_pos hc]
      have e2 : refParsed z = (bytesP z, true) := by unfold refParsed; rw [if_pos hc]
      have hbl := bytesP_length z
      have cT := fun W => text_any (bytesP z) hbl (fun i hi => by rw [bytesP_get z i hi]; exact byteP_bounds z i) W
      rw [textI_bytesP z hc.1 hc.2] at cT
      rw [e1] at cP
      rw [e2] at cR
      simp only at cP cR
      have hkb : ∀ i, i < 32 → ∃ y, ((bytesP z).map (Value.int .u8)).toArray[i]? = some (.int .u8 y) := fun i hi => ⟨(bytesP z).getD i 0, by rw [List.getElem?_toArray, List.getElem?_map, getD_some (by omega)]; rfl⟩
      obtain ⟨K, hK⟩ : ∃ K : Array Value, K = ((bytesP z).map (Value.int .u8)).toArray := ⟨_, rfl⟩
      have hKs : K.size = 32 := by rw [hK]; simpa using hbl
      have hKo : K.all (·.oneCell') = true := by rw [hK]; exact all_oneCell_toArray (ones_int _ _)
      rw [← hK] at cP cR cT hkb
      have HKB := Lib.hid hkb
      have CP := Lib.hid cP
      have CR := Lib.hid cR
      have CT := Lib.hid cT
      clear cP cR cT hK e1 e2 hc hbl hkb
      have heq : ∀ W : World, (Op.equalIn 10000 24 (.agg K) (.agg K)).run Try.prog W = .ok true W := by
        intro W
        obtain ⟨i0, hi, _⟩ := info_parts byteInfo
        exact run_eq_same 9998 Try.underlying24 Try.underlying5 Try.isAgg5 hi keyInfo_cells K HKB.out W
      go_wp2_with fail
      refine (awake_any _).mono ?_; rintro e w1 ⟨rfl, hb1⟩
      go_wp2_with fail
      refine (CP.out _).mono ?_; rintro e w2 ⟨rfl, hb2⟩
      have hB2 := hb1.trans (hb2.mono hb1.size)
      have hz2 := hB2.size
      go_upto_region 4 with ((with_reducible refine wpList_store_row rfl 25 (.tmp 3) (.tmp 18) rfl w2.heap.size K ?_ ?_ 25 ((zerosI 32).map (Value.int .u8)).toArray ?_ ?_ ?_ ?_ ?_); (exact rfl); (exact rfl); (exact Blk.new w2 _ ((zerosI 32).map (Value.int .u8))); (rw [hKs]; kernel_rfl); (rw [hKs]; rfl); (exact hKo))
      refine wp_world fun w3 hw3 => ?_
      have hk3 : Blk w3 w2.heap.size 25 K.toList := by rw [hw3]; exact (Blk.new w2 25 ((zerosI 32).map (Value.int .u8))).setRow (cs' := K.toList)
      have hB3 : Below w.heap.size w w3 := by rw [hw3]; exact Below.setRow (hB2.alloc hz2 _) hz2 _
      clear hw3 hb1 hb2 hB2
      go_wp2_with fail
      refine (CR.out _).mono ?_; rintro e w4 ⟨rfl, hb4⟩
      have hk4 := Below.blk hb4 hk3.lt hk3
      have hB4 := hB3.trans (hb4.mono hB3.size)
      have hz4 := hB4.size
      have hlt := hk4.lt
      clear hk3 hB3 hb4
      go_upto_region 5 with ((with_reducible refine wpList_store_row rfl 24 (.tmp 5) (.tmp 23) rfl w4.heap.size K ?_ ?_ 24 ((zerosI 32).map (Value.int .u8)).toArray ?_ ?_ ?_ ?_ ?_); (exact rfl); (exact rfl); (exact Blk.new w4 _ ((zerosI 32).map (Value.int .u8))); (rw [hKs]; kernel_rfl); (rw [hKs]; rfl); (exact hKo))
      refine wp_world fun w5 hw5 => ?_
      have hq5 : Blk w5 w4.heap.size 24 K.toList := by rw [hw5]; exact (Blk.new w4 24 ((zerosI 32).map (Value.int .u8))).setRow (cs' := K.toList)
      have hb5 : Below w4.heap.size w4 w5 := by rw [hw5]; exact Below.setRow ((Below.refl _ _).alloc (Nat.le_refl _) _) (Nat.le_refl _) _
      have hk5 := Below.blk hb5 hlt hk4
      have hB5 := hB4.trans (hb5.mono hz4)
      clear hw5 hk4 hB4 hb5
      go_wp2_with (first
        | ((with_reducible refine wpList_load_row_g 25 (.tmp 3) rfl ?_ w2.heap.size ?_ 25 K (0, 0) _ ?_ Try.underlying25 rfl ?_ ?_); (exact rfl); (exact rfl); (exact hk5); (rw [hKs]; kernel_rfl))
        | ((with_reducible refine wpList_load_row_g 24 (.tmp 5) rfl ?_ w4.heap.size ?_ 24 K (0, 0) _ ?_ Try.underlying24 rfl ?_ ?_); (exact rfl); (exact rfl); (exact hq5); (rw [hKs]; kernel_rfl)))
      refine (CT.out _).mono ?_; rintro e w6 ⟨rfl, hb6⟩
      have hB6 := hB5.trans (hb6.mono hB5.size)
      go_wp2_with fail
      go_ret
      exact ⟨rfl, hB6⟩
    · have e1 : parsed z = (zerosI 32, 2) := by unfold parsed; rw [if_neg hc]
      have e2 : refParsed z = (zerosI 32, false) := by unfold refParsed; rw [if_neg hc]
      rw [e1] at cP
      rw [e2] at cR
      have hZs : (zero32.toArray).size = 32 := rfl
      have hZo : zero32.toArray.all (·.oneCell') = true := all_oneCell_toArray (ones_int _ _)
      have CP : Hid (∀ W, Calls Try.prog 14 #[.string (strOfNums z)] W fun e w' => e = .returned (.tuple #[.agg zero32.toArray, .int .i64 2]) ∧ Below W.heap.size W w') := cP
      have CR : Hid (∀ W, Calls Try.prog 16 #[.string (strOfNums z)] W fun e w' => e = .returned (.tuple #[.agg zero32.toArray, .bool false]) ∧ Below W.heap.size W w') := cR
      clear cP cR e1 e2 hc
      have heq : ∀ W : World, (Op.equalIn 10000 25 (.agg #[.int .u8 0, .int .u8 0, .int .u8 0, .int .u8 0, .int .u8 0, .int .u8 0, .int .u8 0, .int .u8 0, .int .u8 0, .int .u8 0, .int .u8 0, .int .u8 0, .int .u8 0, .int .u8 0, .int .u8 0, .int .u8 0, .int .u8 0, .int .u8 0, .int .u8 0, .int .u8 0, .int .u8 0, .int .u8 0, .int .u8 0, .int .u8 0, .int .u8 0, .int .u8 0, .int .u8 0, .int .u8 0, .int .u8 0, .int .u8 0, .int .u8 0, .int .u8 0]) (.agg #[.int .u8 0, .int .u8 0, .int .u8 0, .int .u8 0, .int .u8 0, .int .u8 0, .int .u8 0, .int .u8 0, .int .u8 0, .int .u8 0, .int .u8 0, .int .u8 0, .int .u8 0, .int .u8 0, .int .u8 0, .int .u8 0, .int .u8 0, .int .u8 0, .int .u8 0, .int .u8 0, .int .u8 0, .int .u8 0, .int .u8 0, .int .u8 0, .int .u8 0, .int .u8 0, .int .u8 0, .int .u8 0, .int .u8 0, .int .u8 0, .int .u8 0, .int .u8 0])).run Try.prog W = .ok true W := by
        intro W
        obtain ⟨i0, hi, _⟩ := info_parts byteInfo
        exact run_eq_same 9998 Try.underlying25 Try.underlying5 Try.isAgg5 hi keyInfo_cells #[.int .u8 0, .int .u8 0, .int .u8 0, .int .u8 0, .int .u8 0, .int .u8 0, .int .u8 0, .int .u8 0, .int .u8 0, .int .u8 0, .int .u8 0, .int .u8 0, .int .u8 0, .int .u8 0, .int .u8 0, .int .u8 0, .int .u8 0, .int .u8 0, .int .u8 0, .int .u8 0, .int .u8 0, .int .u8 0, .int .u8 0, .int .u8 0, .int .u8 0, .int .u8 0, .int .u8 0, .int .u8 0, .int .u8 0, .int .u8 0, .int .u8 0, .int .u8 0] (fun i hi => ⟨0, by show zero32.toArray[i]? = _; rw [List.getElem?_toArray]; show ((List.replicate 32 (0 : Int)).map (Value.int .u8))[i]? = _; rw [List.map_replicate, List.getElem?_replicate, if_pos hi]⟩) W
      go_wp2_with fail
      refine (awake_any _).mono ?_; rintro e w1 ⟨rfl, hb1⟩
      go_wp2_with fail
      refine (CP.out _).mono ?_; rintro e w2 ⟨rfl, hb2⟩
      have hB2 := hb1.trans (hb2.mono hb1.size)
      have hz2 := hB2.size
      go_upto_region 4 with ((with_reducible refine wpList_store_row rfl 25 (.tmp 3) (.tmp 18) rfl w2.heap.size zero32.toArray ?_ ?_ 25 zero32.toArray ?_ ?_ ?_ ?_ ?_); (exact rfl); (exact rfl); (exact Blk.new w2 _ zero32); (rw [hZs]; kernel_rfl); (exact rfl); (exact hZo))
      refine wp_world fun w3 hw3 => ?_
      have hk3 : Blk w3 w2.heap.size 25 zero32 := by rw [hw3]; exact (Blk.new w2 25 zero32).setRow (cs' := zero32)
      have hB3 : Below w.heap.size w w3 := by rw [hw3]; exact Below.setRow (hB2.alloc hz2 _) hz2 _
      clear hw3 hb1 hb2 hB2
      go_wp2_with fail
      refine (CR.out _).mono ?_; rintro e w4 ⟨rfl, hb4⟩
      have hk4 := Below.blk hb4 hk3.lt hk3
      have hB4 := hB3.trans (hb4.mono hB3.size)
      have hz4 := hB4.size
      have hlt := hk4.lt
      clear hk3 hB3 hb4
      go_upto_region 5 with ((with_reducible refine wpList_store_row rfl 24 (.tmp 5) (.tmp 23) rfl w4.heap.size zero32.toArray ?_ ?_ 24 zero32.toArray ?_ ?_ ?_ ?_ ?_); (exact rfl); (exact rfl); (exact Blk.new w4 _ zero32); (rw [hZs]; kernel_rfl); (exact rfl); (exact hZo))
      refine wp_world fun w5 hw5 => ?_
      have hb5 : Below w4.heap.size w4 w5 := by rw [hw5]; exact Below.setRow ((Below.refl _ _).alloc (Nat.le_refl _) _) (Nat.le_refl _) _
      have hk5 := Below.blk hb5 hlt hk4
      have hB5 := hB4.trans (hb5.mono hz4)
      clear hw5 hk4 hB4 hb5
      have HQ := Lib.hid heq
      clear heq
      go_wp2_with ((with_reducible refine wpList_load_row_g 25 (.tmp 3) rfl ?_ w2.heap.size ?_ 25 #[.int .u8 0, .int .u8 0, .int .u8 0, .int .u8 0, .int .u8 0, .int .u8 0, .int .u8 0, .int .u8 0, .int .u8 0, .int .u8 0, .int .u8 0, .int .u8 0, .int .u8 0, .int .u8 0, .int .u8 0, .int .u8 0, .int .u8 0, .int .u8 0, .int .u8 0, .int .u8 0, .int .u8 0, .int .u8 0, .int .u8 0, .int .u8 0, .int .u8 0, .int .u8 0, .int .u8 0, .int .u8 0, .int .u8 0, .int .u8 0, .int .u8 0, .int .u8 0] (0, 0) _ ?_ Try.underlying25 rfl ?_ ?_); (exact rfl); (exact rfl); (exact hk5); (kernel_rfl); (have heq := HQ.out))
      go_ret
      exact ⟨rfl, hB5⟩

set_option maxRecDepth 100000 in
theorem parses_lifted (os : Os) (started : os.Started) (H : Type) (enc : TypeId × Value → H) :
    ReturnsInHanded {} Try.checked os 6 .any (Rows.digestParsesSpec.pre6 enc Try.prog Try.f6 Rows.digestParsesRow.domain false) (Rows.digestParsesSpec.post enc Try.prog Try.f6 false true false false) := by
  refine returnsInHanded_of_change (C := Try.checked) Try.own started (by kernel_rfl) Try.func6
    (ChangeSpec.witness6 (enc := enc) (C := Try.checked) false ⟨#[], #[.string ⟨#[]⟩], []⟩ 8 (by kernel_rfl) (by kernel_rfl) (by kernel_rfl) (by kernel_rfl)) ?_
  intro W base args ds gs before hval0 hW hcnd _
  have hval : ∀ (j : Nat) t v, Try.f6.params[j]? = some t → args[j]? = some v → Value.okWide Try.prog W .any base t v := hval0
  have hW' := hW
  obtain ⟨p, q, hA0, hV, hbe, hfz, hnd⟩ := hW
  have hA : DataW.TrodAll enc Try.prog W 0 (fun _ => true) true Try.f6.params.toList args.toList ds p := hA0
  rw [Try.params6] at hA hval
  obtain ⟨v0, d0, rfl, rfl, h0⟩ := trodAll_one hA
  obtain ⟨s, rfl, _, _, _⟩ := Go.ChangeMaps.open_string Try.underlying9 (hval 0 _ v0 rfl rfl) h0
  clear hA0 hval0 hfz hnd
  obtain ⟨z, hzs, hz⟩ := str_nums s
  have hP := parses_any z hz W
  rw [hzs] at hP
  refine hP.mono fun e W' ⟨he, hb⟩ => ?_
  subst he
  obtain rfl : gs = [] := (trodVars_none hV).1
  exact ⟨_, rfl, law_post Try.laidOut hW' rfl (by rw [Try.params6]; decide +kernel) (tb := 4) rfl Try.underlying4 hb rfl⟩

theorem parses_holds : Rows.DigestParsesSaid :=
  OpenClaim.holds_of_wide 6 Try.f6 rfl rfl rfl rfl rfl rfl rfl ⟨rfl, rfl, rfl, rfl, rfl⟩ rfl rfl rfl rfl rfl (by kernel_rfl) Try.func6 (by kernel_rfl)
    (of_decide_eq_true (by kernel_rfl)) (by unfold Func.isWrapper; first | (rw [if_pos (by decide +kernel)]; kernel_rfl) | (rw [if_neg (by decide +kernel)]; exact ⟨rfl, rfl⟩))
    (fun os started H enc _ => parses_lifted os started H enc)
end Go.Proofs.Ytigpccfglicjeaa
