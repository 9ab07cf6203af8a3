/- DigestTexts: a digest's text is the document's, and is parsed to it. For every key; no condition. -/
import Derived.Test.YtdmgfmdmdmalfaaParse
namespace Go.Proofs.Ytdmgfmdmdmalfaa
open Go.RowKit Go.WideShapes Go.ChangeShapes Go.ChangeAt

set_option maxHeartbeats 4000000 in
theorem texts_any (k : List Int) (hl : k.length = 32) (hb : ∀ i, i < 32 → 0 ≤ k.getD i 0 ∧ k.getD i 0 ≤ 255) (w : World) :
    Calls Try.prog 5 #[.agg (k.map (Value.int .u8)).toArray] w fun e w' => e = .returned (.bool true) ∧ Below w.heap.size w w' := by
  have cT := fun W => text_any k hl hb W
  have cR := fun W => refText_any k hl hb W
  have cP := fun W => parse_text k hl hb W
  obtain ⟨K, hK⟩ : ∃ K : Array Value, K = (k.map (Value.int .u8)).toArray := ⟨_, rfl⟩
  have hKs : K.size = 32 := by rw [hK]; simpa using hl
  have hKo : K.all (·.oneCell') = true := by rw [hK]; exact all_oneCell_toArray (ones_int _ _)
  rw [← hK] at cT cR cP ⊢
  have HK := Lib.hid hK
  have HT := Lib.hid cT
  have HR := Lib.hid cR
  have HP := Lib.hid cP
  clear hK cT cR cP
  go_enter Try.func5, Try.ntmps5
  have hk0 : Blk (w.alloc (.cells K 25)) w.heap.size 25 K.toList := Blk.new w _ K.toList
  have hB0 : Below w.heap.size w (w.alloc (.cells K 25)) := (Below.refl _ _).alloc (Nat.le_refl _) _
  go_wp2_with fail
  refine (awake_any _).mono ?_; rintro e w1 ⟨rfl, hb1⟩
  have hk1 := Below.blk hb1 hk0.lt hk0
  have hB1 := hB0.trans (hb1.mono hB0.size)
  clear hk0 hB0 hb1
  go_wp2_with ((with_reducible refine wpList_load_row_g 25 (.tmp 1) rfl ?_ w.heap.size ?_ 25 K (0, 0) _ ?_ Try.underlying25 rfl ?_ ?_); (exact rfl); (exact rfl); (exact hk1); (rw [hKs]; kernel_rfl))
  refine (HT.out _).mono ?_; rintro e w2 ⟨rfl, hb2⟩
  have hk2 := Below.blk hb2 hk1.lt hk1
  have hB2 := hB1.trans (hb2.mono hB1.size)
  clear hk1 hB1 hb2
  go_wp2_with fail
  refine (HP.out _).mono ?_; rintro e w3 ⟨rfl, hb3⟩
  have hk3 := Below.blk hb3 hk2.lt hk2
  have hB3 := hB2.trans (hb3.mono hB2.size)
  clear hk2 hB2 hb3
  have hz3 := hB3.size
  go_upto_region 5 with ((with_reducible refine wpList_store_row rfl 25 (.tmp 4) (.tmp 13) rfl w3.heap.size K ?_ ?_ 25 ((zerosI 32).map (Value.int .u8)).toArray ?_ ?_ ?_ ?_ ?_); (exact rfl); (exact rfl); (exact Blk.new w3 _ ((zerosI 32).map (Value.int .u8))); (rw [hKs]; kernel_rfl); (rw [hKs]; rfl); (exact hKo))
  refine wp_world fun w4 hw4 => ?_
  have hq4 : Blk w4 w3.heap.size 25 K.toList := by
    rw [hw4]
    exact (Blk.new w3 25 ((zerosI 32).map (Value.int .u8))).setRow (cs' := K.toList)
  have hBb : Below w3.heap.size w3 w4 := by rw [hw4]; exact Below.setRow ((Below.refl _ _).alloc (Nat.le_refl _) _) (Nat.le_refl _) _
  have hk4 := Below.blk hBb hk3.lt hk3
  have hB4 := hB3.trans (hBb.mono hz3)
  clear hw4 hBb hk3 hB3
  have heq : ∀ W : World, (Op.equalIn 10000 25 (.agg K) (.agg K)).run Try.prog W = .ok true W := by
    intro W
    obtain ⟨i0, hi, _⟩ := info_parts byteInfo
    exact run_eq_same 9998 Try.underlying25 Try.underlying5 Try.isAgg5 hi keyInfo_cells K (fun i hi => ⟨k.getD i 0, by rw [HK.out, List.getElem?_toArray, List.getElem?_map, getD_some (by omega)]; rfl⟩) W
  go_wp2_with ((with_reducible refine wpList_load_row_g 25 (.tmp 1) rfl ?_ w.heap.size ?_ 25 K (0, 0) _ ?_ Try.underlying25 rfl ?_ ?_); (exact rfl); (exact rfl); (exact hk4); (rw [hKs]; kernel_rfl))
  refine (HR.out _).mono ?_; rintro e w5 ⟨rfl, hb5⟩
  have hk5 := Below.blk hb5 hk4.lt hk4
  have hq5 := Below.blk hb5 hq4.lt hq4
  have hB5 := hB4.trans (hb5.mono hB4.size)
  clear hk4 hq4 hB4 hb5
  go_wp2_with (first
    | ((with_reducible refine wpList_load_row_g 25 (.tmp 1) rfl ?_ w.heap.size ?_ 25 K (0, 0) _ ?_ Try.underlying25 rfl ?_ ?_); (exact rfl); (exact rfl); (exact hk5); (rw [hKs]; kernel_rfl))
    | ((with_reducible refine wpList_load_row_g 25 (.tmp 4) rfl ?_ w3.heap.size ?_ 25 K (0, 0) _ ?_ Try.underlying25 rfl ?_ ?_); (exact rfl); (exact rfl); (exact hq5); (rw [hKs]; kernel_rfl)))
  go_ret
  exact ⟨rfl, hB5⟩

set_option maxRecDepth 100000 in
theorem texts_lifted (os : Os) (started : os.Started) (H : Type) (enc : TypeId × Value → H) :
    ReturnsInHanded {} Try.checked os 5 .any (Rows.digestTextsSpec.pre6 enc Try.prog Try.f5 Rows.digestTextsRow.domain false) (Rows.digestTextsSpec.post enc Try.prog Try.f5 false true false false) := by
  refine returnsInHanded_of_change (C := Try.checked) Try.own started (by kernel_rfl) Try.func5
    (ChangeSpec.witness6 (enc := enc) (C := Try.checked) false ⟨#[], #[zeroKey], []⟩ 8 (by kernel_rfl) (by kernel_rfl) (by kernel_rfl) (by kernel_rfl)) ?_
  intro W base args ds gs before hval0 hW hcnd _
  have hval : ∀ (j : Nat) t v, Try.f5.params[j]? = some t → args[j]? = some v → Value.okWide Try.prog W .any base t v := hval0
  have hW' := hW
  obtain ⟨p, q, hA0, hV, hbe, hfz, hnd⟩ := hW
  have hA : DataW.TrodAll enc Try.prog W 0 (fun _ => true) true Try.f5.params.toList args.toList ds p := hA0
  rw [Try.params5] at hA hval
  obtain ⟨v0, d0, rfl, rfl, h0⟩ := trodAll_one hA
  obtain ⟨a, rfl, la, wa⟩ := open_array Try.underlying25 Try.underlying5 keyCells byteCells (hval 0 _ v0 rfl rfl) h0
  clear hA0 hval0 hfz hnd
  refine (texts_any a la (wf_key la wa) W).mono fun e W' ⟨he, hb⟩ => ?_
  subst he
  obtain rfl : gs = [] := (trodVars_none hV).1
  exact ⟨_, rfl, law_post Try.laidOut hW' rfl (by rw [Try.params5]; decide +kernel) (tb := 4) rfl Try.underlying4 hb rfl⟩

theorem texts_holds : Rows.DigestTextsSaid :=
  OpenClaim.holds_of_wide 5 Try.f5 rfl rfl rfl rfl rfl rfl rfl ⟨rfl, rfl, rfl, rfl, rfl⟩ rfl rfl rfl rfl rfl (by kernel_rfl) Try.func5 (by kernel_rfl)
    (of_decide_eq_true (by kernel_rfl)) (by unfold Func.isWrapper; first | (rw [if_pos (by decide +kernel)]; kernel_rfl) | (rw [if_neg (by decide +kernel)]; exact ⟨rfl, rfl⟩))
    (fun os started H enc _ => texts_lifted os started H enc)
end Go.Proofs.Ytdmgfmdmdmalfaa
