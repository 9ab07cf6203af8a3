/- DigestSums: the digest of any bytes is the document's; they stay. For every slice of bytes; no condition. -/
import Derived.Test.YtigpccfglicjeaaRefPad
import Derived.Test.YtigpccfglicjeaaKeys
import Derived.Test.YtigpccfglicjeaaQuiet
namespace Go.Proofs.Ytigpccfglicjeaa
open Go.RowKit Go.WideShapes Go.ChangeShapes Go.ChangeAt

set_option maxHeartbeats 4000000 in
theorem sums_any (v : Value) (p : List Int) (w : World) (hp : Bytes w v p) (hm : p.length < 9223372036854775808) :
    Calls Try.prog 3 #[v] w fun e w' => e = .returned (.bool true) ∧ Below w.heap.size w w' := by
  obtain ⟨va, vc, rfl⟩ := hp.slice'
  go_enter Try.func3, Try.ntmps3
  go_wp2_with fail
  refine (awake_any _).mono ?_; rintro e w1 ⟨rfl, hb1⟩
  by_cases hlong : 1000 < p.length
  · go_wp2_with fail
    refine (awake_any _).mono ?_; rintro e w2 ⟨rfl, hb2⟩
    go_wp2_with fail
    go_ret
    exact ⟨rfl, hb1.trans (hb2.mono hb1.size)⟩
  · have hz1 := hb1.size
    have hpl : p.length < 67108864 := by omega
    obtain ⟨N, hN⟩ : ∃ N, N = w1.heap.size := ⟨_, rfl⟩
    have hown0 : OwnB (w1.alloc (.cells #[] 5)) N (.slice (some ⟨w1.heap.size, 0, none⟩) 0 0) [] := World.ownsRow_lit w1 #[] 0 (by omega) (by unfold maxLen; omega) rfl
    have hB2 : Below w.heap.size w (w1.alloc (.cells #[] 5)) := hb1.alloc hz1 _
    have HO0 := Lib.hid hown0
    have HB0 := Lib.hid hB2
    clear hown0 hB2
    go_wp2_with (with_reducible refine wpList_append_bytesArg rfl (.tmp 13) (.tmp 14) rfl N _ _ [] p ?_ HO0.out ?_ hp HB0.out ?_ ?_ ?_)
    case refine_1 => rfl
    case refine_2 => rfl
    case refine_3 => simp; omega
    case refine_4 => simp; omega
    intro v1 w2 hown2 hg2
    have hB2 : Below w.heap.size w w2 := HB0.out.trans ((HO0.out.below hg2 (by simp; omega)).mono (by omega))
    have hby2 := hown2.bytes
    have hBp2 := hp.below hB2
    clear hg2 HO0 HB0 hown2 hb1
    obtain ⟨a2, c2, rfl⟩ := hby2.slice'
    obtain ⟨X, hX⟩ : ∃ X, X = ((sumI p).map (Value.int .u8)).toArray := ⟨_, rfl⟩
    have cS := sum_any _ p w2 hby2 hpl
    rw [← hX] at cS
    have HX := Lib.hid hX
    clear hX
    have hXo : X.all (·.oneCell') = true := by rw [HX.out]; exact all_oneCell_toArray (ones_int _ _)
    go_wp2_with fail
    refine cS.mono ?_; rintro e w3 ⟨rfl, hsl, hb3⟩
    have hXs : X.size = 32 := by rw [HX.out]; simpa using hsl
    have hB3 := hB2.trans (hb3.mono hB2.size)
    have hBp3 := hBp2.below hb3
    have hby3 := hby2.below hb3
    clear cS hb3 hB2 hBp2 hby2
    have hz3 := hB3.size
    go_upto_region 5 with ((with_reducible refine wpList_store_row rfl 25 (.tmp 4) (.tmp 17) rfl w3.heap.size X ?_ ?_ 25 ((zerosI 32).map (Value.int .u8)).toArray ?_ ?_ ?_ ?_ ?_); (exact rfl); (exact rfl); (exact Blk.new w3 _ ((zerosI 32).map (Value.int .u8))); (rw [hXs]; kernel_rfl); (rw [hXs]; rfl); (exact hXo))
    refine wp_world fun w4 hw4 => ?_
    have hk4 : Blk w4 w3.heap.size 25 X.toList := by
      rw [hw4]
      exact (Blk.new w3 25 ((zerosI 32).map (Value.int .u8))).setRow (cs' := X.toList)
    have hB4 : Below w.heap.size w w4 := by rw [hw4]; exact Below.setRow (hB3.alloc hz3 _) hz3 _
    have hBb : Below w3.heap.size w3 w4 := by rw [hw4]; exact Below.setRow ((Below.refl _ _).alloc (Nat.le_refl _) _) (Nat.le_refl _) _
    have hBp4 := hBp3.below hBb
    have hby4 := hby3.below hBb
    clear hw4 hBb hBp3 hby3 hB3
    have cR := fun (w' : World) (hb : Below w4.heap.size w4 w') => refSum_any _ p w' (hBp4.below hb) hpl
    rw [← HX.out] at cR
    have heq := key_same 24 Try.underlying24 X p HX.out hsl
    have hcv := fun (w' : World) (hb : Below w4.heap.size w4 w') => run_string (hBp4.below hb)
    have hcv' := fun (w' : World) (hb : Below w4.heap.size w4 w') => run_string (hby4.below hb)
    have hl4 := hk4.lt
    refine wp_region_quiet (C := fun w' => Below w4.heap.size w4 w') (by kernel_rfl) (by kernel_rfl) ⟨rfl, rfl, rfl, Nat.le_refl _, fun _ _ => rfl⟩ ?_
    refine wpQuiet_load_row 25 (.tmp 4) rfl rfl w3.heap.size rfl 25 X (0, 0) _ (fun w' hb => (Below.blk hb hl4 hk4)) Try.underlying25 rfl (by rw [hXs]; kernel_rfl) ?_
    refine wpQuiet_step (fun K hK => ?_); go_simp; refine ⟨_, fun _ _ => rfl, hK _ ?_⟩; clear hK K
    refine wpQuiet_step (fun K hK => ?_); go_simp; refine ⟨.agg X, fun w' hb => (cR w' hb).mono fun e w'' ⟨he, hb'⟩ => ⟨he, hb.trans (hb'.mono hb.size)⟩, hK _ ?_⟩; clear hK K
    refine wpQuiet_run (.bool true) rfl (fun w' hb => ?_) ?_
    · have := heq w'
      go_simp
    refine wpQuiet_step (fun K hK => ?_); go_simp; refine ⟨_, fun _ _ => rfl, hK _ ?_⟩; clear hK K
    refine wpQuiet_step (fun K hK => ?_); go_simp; refine ⟨_, fun _ _ => rfl, hK _ ?_⟩; clear hK K
    refine wpQuiet_run (.string (strOfNums p)) rfl (fun w' hb => ?_) ?_
    · have := hcv' w' hb
      go_simp
    refine wpQuiet_step (fun K hK => ?_); go_simp; refine ⟨_, fun _ _ => rfl, hK _ ?_⟩; clear hK K
    refine wpQuiet_run (.string (strOfNums p)) rfl (fun w' hb => ?_) ?_
    · have := hcv w' hb
      go_simp
    refine wpQuiet_run (.bool true) rfl (fun w' hb => ?_) ?_
    · go_simp
    refine wpQuiet_run (.bool true) rfl (fun w' hb => ?_) ?_
    · go_simp
    refine wpQuiet_run (.bool true) rfl (fun w' hb => ?_) ?_
    · go_simp
    refine wpQuiet_nil ?_
    intro w' hb
    go_wp2
    go_simp
    go_ret
    exact ⟨rfl, hB4.trans (hb.mono hB4.size)⟩

set_option maxRecDepth 100000 in
theorem sums_lifted (os : Os) (started : os.Started) (H : Type) (enc : TypeId × Value → H) :
    ReturnsInHanded {} Try.checked os 3 .any (Rows.digestSumsSpec.pre6 enc Try.prog Try.f3 Rows.digestSumsRow.domain false) (Rows.digestSumsSpec.post enc Try.prog Try.f3 false true false false) := by
  refine returnsInHanded_of_change (C := Try.checked) Try.own started (by kernel_rfl) Try.func3
    (ChangeSpec.witness6 (enc := enc) (C := Try.checked) false ⟨#[], #[.slice none 0 0], []⟩ 8 (by kernel_rfl) (by kernel_rfl) (by kernel_rfl) (by kernel_rfl)) ?_
  intro W base args ds gs before hval0 hW hcnd _
  have hval : ∀ (j : Nat) t v, Try.f3.params[j]? = some t → args[j]? = some v → Value.okWide Try.prog W .any base t v := hval0
  have hW' := hW
  obtain ⟨p, q, hA0, hV, hbe, hfz, hnd⟩ := hW
  have hA : DataW.TrodAll enc Try.prog W 0 (fun _ => true) true Try.f3.params.toList args.toList ds p := hA0
  rw [Try.params3] at hA hval
  obtain ⟨v0, d0, rfl, rfl, h0⟩ := trodAll_one hA
  obtain ⟨zs, hb, hzl, _⟩ := open_bytes Try.underlying22 Try.underlying5 byteCells (hval 0 _ v0 rfl rfl) h0
  clear hA0 hval0 hfz hnd
  refine (sums_any v0 zs W hb hzl).mono fun e W' ⟨he, hb⟩ => ?_
  subst he
  obtain rfl : gs = [] := (trodVars_none hV).1
  exact ⟨_, rfl, law_post Try.laidOut hW' rfl (by rw [Try.params3]; decide +kernel) (tb := 4) rfl Try.underlying4 hb rfl⟩

theorem sums_holds : Rows.DigestSumsSaid :=
  OpenClaim.holds_of_wide 3 Try.f3 rfl rfl rfl rfl rfl rfl rfl ⟨rfl, rfl, rfl, rfl, rfl⟩ rfl rfl rfl rfl rfl (by kernel_rfl) Try.func3 (by kernel_rfl)
    (of_decide_eq_true (by kernel_rfl)) (by unfold Func.isWrapper; first | (rw [if_pos (by decide +kernel)]; kernel_rfl) | (rw [if_neg (by decide +kernel)]; exact ⟨rfl, rfl⟩))
    (fun os started H enc _ => sums_lifted os started H enc)
end Go.Proofs.Ytigpccfglicjeaa
