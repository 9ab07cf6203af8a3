/- DigestOrders: of two keys that differ just one is less, by the first byte that differs; the order goes through. For every three keys; no condition. -/
import Derived.Test.YtdmgfmdmdmalfaaOrders
import Derived.Test.YtdmgfmdmdmalfaaLift
import Derived.Test.YtdmgfmdmdmalfaaRows
namespace Go.Proofs.Ytdmgfmdmdmalfaa
open Go.RowKit Go.WideShapes Go.ChangeShapes Go.ChangeAt

set_option maxHeartbeats 4000000 in
theorem orders_any (a b c : List Int) (ha : a.length = 32) (hb : b.length = 32) (hc : c.length = 32) (wa : ∀ i, i < 32 → 0 ≤ a.getD i 0 ∧ a.getD i 0 ≤ 255) (wb : ∀ i, i < 32 → 0 ≤ b.getD i 0 ∧ b.getD i 0 ≤ 255) (w : World) :
    Calls Try.prog 7 #[.agg (a.map (Value.int .u8)).toArray, .agg (b.map (Value.int .u8)).toArray, .agg (c.map (Value.int .u8)).toArray] w fun e w' => e = .returned (.bool true) ∧ Below w.heap.size w w' := by
  have cab := less_any a b ha hb
  have cba := less_any b a hb ha
  have cbc := less_any b c hb hc
  have cac := less_any a c ha hc
  have lab := less_first a b
  have lba := less_first' a b
  have ltr := less_trans a b c
  obtain ⟨A, hA⟩ : ∃ A : List Value, A = a.map (Value.int .u8) := ⟨_, rfl⟩
  obtain ⟨B, hB⟩ : ∃ B : List Value, B = b.map (Value.int .u8) := ⟨_, rfl⟩
  obtain ⟨C, hC⟩ : ∃ C : List Value, C = c.map (Value.int .u8) := ⟨_, rfl⟩
  have hAl : A.length = 32 := by rw [hA]; simpa using ha
  have hBl : B.length = 32 := by rw [hB]; simpa using hb
  have hCl : C.length = 32 := by rw [hC]; simpa using hc
  have hAg : ∀ i, i < 32 → A[i]? = some (.int .u8 (a.getD i 0)) := fun i hi => by rw [hA, ← List.getElem?_toArray]; exact row8_get a i (by omega)
  have hBg : ∀ i, i < 32 → B[i]? = some (.int .u8 (b.getD i 0)) := fun i hi => by rw [hB, ← List.getElem?_toArray]; exact row8_get b i (by omega)
  rw [← hA, ← hB] at cab cba
  rw [← hB, ← hC] at cbc
  rw [← hA, ← hC] at cac
  rw [← hA, ← hB, ← hC]
  have HAB := Lib.hid cab
  have HBA := Lib.hid cba
  have HBC := Lib.hid cbc
  have HAC := Lib.hid cac
  have HAG := Lib.hid hAg
  have HBG := Lib.hid hBg
  have LAB := Lib.hid lab
  have LBA := Lib.hid lba
  have LTR := Lib.hid ltr
  have WA := Lib.hid wa
  have WB := Lib.hid wb
  clear hA hB hC hAg hBg cab cba cbc cac lab lba ltr wa wb
  go_enter Try.func7, Try.ntmps7
  go_upto_region 1 with fail
  refine wp_world fun w1 hw1 => ?_
  have h1 : Blk w1 w.heap.size 25 A := by rw [hw1]; exact ((Blk.new w 25 A).alloc _).alloc _
  have h2 : Blk w1 (w.heap.size + 1) 25 B := by
    rw [hw1]
    have := (Blk.new (w.alloc (.cells A.toArray 25)) 25 B).alloc (.cells C.toArray 25)
    rw [World.size_alloc] at this; exact this
  have h3 : Blk w1 (w.heap.size + 1 + 1) 25 C := by
    rw [hw1]
    have := Blk.new ((w.alloc (.cells A.toArray 25)).alloc (.cells B.toArray 25)) 25 C
    rw [World.size_alloc, World.size_alloc] at this; exact this
  have hBe : Below w.heap.size w w1 := by rw [hw1]; exact (((Below.refl _ _).alloc (Nat.le_refl _) _).alloc (by simp) _).alloc (by simp; omega) _
  clear hw1
  go_wp2_with fail
  refine (awake_any _).mono ?_; rintro e w2 ⟨rfl, hb2⟩
  replace h1 := Below.blk hb2 h1.lt h1
  replace h2 := Below.blk hb2 h2.lt h2
  replace h3 := Below.blk hb2 h3.lt h3
  replace hBe := hBe.trans (hb2.mono hBe.size)
  clear hb2
  go_wp2_with fail
  go_loopw [7, 8] (fun s7 s8 wr => ∃ k : Nat, k ≤ 32 ∧ s8 = .int .i64 ((k : Int) - 1) ∧ s7 = .int .i64 (firstL (a.drop k) (b.drop k)) ∧
      Blk wr w.heap.size 25 A ∧ Blk wr (w.heap.size + 1) 25 B ∧ Blk wr (w.heap.size + 1 + 1) 25 C ∧ Below w.heap.size w wr) (fun _ s8 _ => (intOf s8 + 1).toNat)
  case atStart => exact ⟨32, by omega, rfl, by rw [List.drop_eq_nil_of_le (by omega)]; rfl, h1, h2, h3, hBe⟩
  case round =>
    clear h1 h2 h3 hBe
    obtain ⟨k, hk, rfl, rfl, h1, h2, h3, hBe⟩ := hrel
    cases k with
    | succ i =>
      have HF := Lib.hid (first_drop a b i (by omega) (by omega))
      have c1 := h1.cell (HAG.out i (by omega))
      have c2 := h2.cell (HBG.out i (by omega))
      obtain ⟨x0, x1⟩ := WA.out i (by omega)
      obtain ⟨y0, y1⟩ := WB.out i (by omega)
      have ei : ((i + 1 : Nat) : Int) - 1 = i := by omega
      have li : (i : Int) < 32 := by omega
      rw [ei]
      clear ei
      by_cases he : a.getD i 0 = b.getD i 0
      · have hne : (a.getD i 0 != b.getD i 0) = false := bne_eq_false_iff_eq.2 he
        have HE := Lib.hid he; clear he
        generalize a.getD i 0 = x at *
        generalize b.getD i 0 = y at *
        generalize firstL (a.drop (i + 1)) (b.drop (i + 1)) = F at *
        go_wp2_with fail
        go_quiet (fail)
        go_wp2_with fail
        go_roundw
        case rel => exact ⟨i, by omega, rfl, by rw [HF.out, if_pos HE.out], h1.drewN _, h2.drewN _, h3.drewN _, Below.drewN hBe _⟩
        case measure => simp [intOf]
      · have hne : (a.getD i 0 != b.getD i 0) = true := bne_iff_ne.2 he
        have HE := Lib.hid he; clear he
        generalize a.getD i 0 = x at *
        generalize b.getD i 0 = y at *
        generalize firstL (a.drop (i + 1)) (b.drop (i + 1)) = F at *
        have ex : IntKind.i64.wrap x = x := IntWalk.i64_in _ (by omega)
        have ey : IntKind.i64.wrap y = y := IntWalk.i64_in _ (by omega)
        have exy : IntKind.i64.wrap (x - y) = x - y := IntWalk.i64_in _ (by omega)
        go_wp2_with fail
        go_quiet (fail)
        go_wp2_with fail
        go_quiet (fail)
        go_wp2_with fail
        go_roundw
        case rel => exact ⟨i, by omega, rfl, by rw [HF.out, if_neg HE.out], h1.drewN _, h2.drewN _, h3.drewN _, Below.drewN hBe _⟩
        case measure => simp [intOf]
    | zero =>
      rw [List.drop_zero, List.drop_zero]
      have hll := LAB.out
      have hlr := LBA.out
      have hlt := LTR.out
      clear LAB LBA LTR HAG HBG WA WB
      generalize firstL a b = F at *
      generalize lessL a b = p at *
      generalize lessL b a = q at *
      generalize lessL b c = r at *
      generalize lessL a c = t at *
      by_cases hneg : F < 0
      all_goals by_cases hpos : F > 0
      all_goals
        simp only [hneg, hpos, decide_true, decide_false] at hll hlr
        subst hll hlr
        cases r <;> cases t
      all_goals first
        | (exfalso; have hx := hlt rfl rfl; simp at hx; done)
        | (exfalso; omega)
        | (clear hlt
           simp only [gt_iff_lt] at hpos
           obtain hd1 : decide (F < 0) = _ := by first | exact decide_eq_true hneg | exact decide_eq_false hneg
           obtain hd2 : decide (0 < F) = _ := by first | exact decide_eq_true hpos | exact decide_eq_false hpos
           go_wp2_with (first
            | ((with_reducible refine wpList_load_row_g 25 (.tmp 3) rfl ?_ w.heap.size ?_ 25 A.toArray (0, 0) _ ?_ Try.underlying25 rfl ?_ ?_); (exact rfl); (exact rfl); (exact h1); (rw [List.size_toArray, hAl]; kernel_rfl))
            | ((with_reducible refine wpList_load_row_g 25 (.tmp 4) rfl ?_ (w.heap.size + 1) ?_ 25 B.toArray (0, 0) _ ?_ Try.underlying25 rfl ?_ ?_); (exact rfl); (exact rfl); (exact h2); (rw [List.size_toArray, hBl]; kernel_rfl))
            | ((with_reducible refine wpList_load_row_g 25 (.tmp 5) rfl ?_ (w.heap.size + 1 + 1) ?_ 25 C.toArray (0, 0) _ ?_ Try.underlying25 rfl ?_ ?_); (exact rfl); (exact rfl); (exact h3); (rw [List.size_toArray, hCl]; kernel_rfl))
            | (go_at_call 17
               first
                 | (with_reducible refine (HAB.out _).mono ?_)
                 | (with_reducible refine (HBA.out _).mono ?_)
                 | (with_reducible refine (HBC.out _).mono ?_)
                 | (with_reducible refine (HAC.out _).mono ?_)
               rintro e wx ⟨rfl, hbx⟩
               replace h1 := Below.blk hbx h1.lt h1
               replace h2 := Below.blk hbx h2.lt h2
               replace h3 := Below.blk hbx h3.lt h3
               replace hBe := hBe.trans (hbx.mono hBe.size)
               clear hbx))
           go_ret
           exact ⟨rfl, hBe⟩)

theorem Try.own : ownKnob Try.prog.godebug = none := by kernel_rfl
theorem Try.laidOut : laidOutB Try.prog = true := by kernel_rfl
theorem keyCells : Try.prog.cellsOf 25 = 32 := by kernel_rfl
theorem byteCells : Try.prog.cellsOf 5 = 1 := by kernel_rfl
def zeroKey : Value := .agg (List.replicate 32 (Value.int .u8 0)).toArray
theorem wf_key {zs : List Int} (hl : zs.length = 32) (hw : ∀ z ∈ zs, (Lit.int .u8 z).wf = true) : ∀ i, i < 32 → 0 ≤ zs.getD i 0 ∧ zs.getD i 0 ≤ 255 := fun i hi => by
  refine wf_u8 (hw _ ?_)
  rw [List.getD_eq_getElem?_getD, List.getElem?_eq_getElem (by omega)]
  exact List.getElem_mem _

set_option maxRecDepth 100000 in
theorem orders_lifted (os : Os) (started : os.Started) (H : Type) (enc : TypeId × Value → H) :
    ReturnsInHanded {} Try.checked os 7 .any (Rows.digestOrdersSpec.pre6 enc Try.prog Try.f7 Rows.digestOrdersRow.domain false) (Rows.digestOrdersSpec.post enc Try.prog Try.f7 false true false false) := by
  refine returnsInHanded_of_change (C := Try.checked) Try.own started (by kernel_rfl) Try.func7
    (ChangeSpec.witness6 (enc := enc) (C := Try.checked) false ⟨#[], #[zeroKey, zeroKey, zeroKey], []⟩ 8 (by kernel_rfl) (by kernel_rfl) (by kernel_rfl) (by kernel_rfl)) ?_
  intro W base args ds gs before hval0 hW hcnd _
  have hval : ∀ (j : Nat) t v, Try.f7.params[j]? = some t → args[j]? = some v → Value.okWide Try.prog W .any base t v := hval0
  have hW' := hW
  obtain ⟨p, q, hA0, hV, hbe, hfz, hnd⟩ := hW
  have hA : DataW.TrodAll enc Try.prog W 0 (fun _ => true) true Try.f7.params.toList args.toList ds p := hA0
  rw [Try.params7] at hA hval
  obtain ⟨v0, v1, v2, d0, d1, d2, p0, p1, p2, rfl, rfl, _, h0, h1, h2⟩ := trodAll_three hA
  obtain ⟨a, rfl, la, wa⟩ := open_array Try.underlying25 Try.underlying5 keyCells byteCells (hval 0 _ v0 rfl rfl) h0
  obtain ⟨b, rfl, lb, wb⟩ := open_array Try.underlying25 Try.underlying5 keyCells byteCells (hval 1 _ v1 rfl rfl) h1
  obtain ⟨c, rfl, lc, _⟩ := open_array Try.underlying25 Try.underlying5 keyCells byteCells (hval 2 _ v2 rfl rfl) h2
  clear hA0 hval0 hfz hnd
  refine (orders_any a b c la lb lc (wf_key la wa) (wf_key lb wb) W).mono fun e W' ⟨he, hb⟩ => ?_
  subst he
  obtain rfl : gs = [] := (trodVars_none hV).1
  exact ⟨_, rfl, law_post Try.laidOut hW' rfl (by rw [Try.params7]; decide +kernel) (tb := 4) rfl Try.underlying4 hb rfl⟩

theorem orders_holds : Rows.DigestOrdersSaid :=
  OpenClaim.holds_of_wide 7 Try.f7 rfl rfl rfl rfl rfl rfl rfl ⟨rfl, rfl, rfl, rfl, rfl⟩ rfl rfl rfl rfl rfl (by kernel_rfl) Try.func7 (by kernel_rfl)
    (of_decide_eq_true (by kernel_rfl)) (by unfold Func.isWrapper; first | (rw [if_pos (by decide +kernel)]; kernel_rfl) | (rw [if_neg (by decide +kernel)]; exact ⟨rfl, rfl⟩))
    (fun os started H enc _ => orders_lifted os started H enc)
end Go.Proofs.Ytdmgfmdmdmalfaa
