/- The order of keys: what 'Less' returns; the law on it. -/
import Derived.Test.YtdmgfmdmdmalfaaEval
import Derived.Test.YtdmgfmdmdmalfaaTail
namespace Go.Proofs.Ytdmgfmdmdmalfaa
open Go.RowKit

/-- Is a less than b, by the first number that differs? -/
def lessL : List Int → List Int → Bool
  | x :: xs, y :: ys => if x = y then lessL xs ys else decide (x < y)
  | _, _ => false
/-- The difference at the first place that differs. -/
def firstL : List Int → List Int → Int
  | x :: xs, y :: ys => if x = y then firstL xs ys else x - y
  | _, _ => 0
theorem less_first : ∀ (a b : List Int), lessL a b = decide (firstL a b < 0)
  | [], _ => rfl
  | _ :: _, [] => rfl
  | x :: xs, y :: ys => by
    unfold lessL firstL
    split
    · exact less_first xs ys
    · apply Bool.eq_iff_iff.2; simp; omega
theorem less_first' : ∀ (a b : List Int), lessL b a = decide (firstL a b > 0)
  | [], [] => rfl
  | [], _ :: _ => rfl
  | _ :: _, [] => rfl
  | x :: xs, y :: ys => by
    unfold lessL firstL
    by_cases h : x = y
    · rw [if_pos h, if_pos h.symm]; exact less_first' xs ys
    · rw [if_neg h, if_neg (fun e => h e.symm)]; apply Bool.eq_iff_iff.2; simp
theorem less_trans : ∀ (a b c : List Int), lessL a b = true → lessL b c = true → lessL a c = true
  | x :: xs, y :: ys, z :: zs, h1, h2 => by
    unfold lessL at h1 h2 ⊢
    by_cases e1 : x = y
    · rw [if_pos e1] at h1
      by_cases e2 : y = z
      · rw [if_pos e2] at h2; rw [if_pos (e1.trans e2)]; exact less_trans xs ys zs h1 h2
      · rw [if_neg e2] at h2; rw [if_neg (fun e => e2 (e1.symm.trans e))]; simp at h2 ⊢; omega
    · rw [if_neg e1] at h1
      by_cases e2 : y = z
      · rw [if_neg (fun e => e1 (e.trans e2.symm))]; simp at h1 ⊢; omega
      · rw [if_neg e2] at h2; simp at h1 h2; rw [if_neg (by omega)]; simp; first | done | omega
  | [], _, _, h, _ => by simp [lessL] at h
  | _ :: _, [], _, h, _ => by simp [lessL] at h
  | _ :: _, _ :: _, [], _, h => by simp [lessL] at h
theorem less_drop (a b : List Int) (i : Nat) (ha : i < a.length) (hb : i < b.length) : lessL (a.drop i) (b.drop i) = if a.getD i 0 = b.getD i 0 then lessL (a.drop (i + 1)) (b.drop (i + 1)) else decide (a.getD i 0 < b.getD i 0) := by
  rw [List.drop_eq_getElem_cons ha, List.drop_eq_getElem_cons hb, lessL]
  simp [List.getD_eq_getElem?_getD, ha, hb]
theorem first_drop (a b : List Int) (i : Nat) (ha : i < a.length) (hb : i < b.length) : firstL (a.drop i) (b.drop i) = if a.getD i 0 = b.getD i 0 then firstL (a.drop (i + 1)) (b.drop (i + 1)) else a.getD i 0 - b.getD i 0 := by
  rw [List.drop_eq_getElem_cons ha, List.drop_eq_getElem_cons hb, firstL]
  simp [List.getD_eq_getElem?_getD, ha, hb]
theorem row8_get (l : List Int) (k : Nat) (hk : k < l.length) : (l.map (Value.int .u8)).toArray[k]? = some (.int .u8 (l.getD k 0)) := by
  rw [List.getElem?_toArray, List.getElem?_map, List.getD_eq_getElem?_getD, List.getElem?_eq_getElem hk]; rfl

set_option maxHeartbeats 1000000 in
theorem less_any (a b : List Int) (ha : a.length = 32) (hb : b.length = 32) (w : World) :
    Calls Try.prog 17 #[.agg (a.map (Value.int .u8)).toArray, .agg (b.map (Value.int .u8)).toArray] w fun e w' => e = .returned (.bool (lessL a b)) ∧ Below w.heap.size w w' := by
  obtain ⟨A, hA⟩ : ∃ A : List Value, A = a.map (Value.int .u8) := ⟨_, rfl⟩
  obtain ⟨B, hB⟩ : ∃ B : List Value, B = b.map (Value.int .u8) := ⟨_, rfl⟩
  have hAl : A.length = 32 := by rw [hA]; simpa using ha
  have hAg : ∀ i, i < 32 → A.toArray[i]? = some (.int .u8 (a.getD i 0)) := fun i hi => by rw [hA]; exact row8_get a i (by omega)
  have hBg : ∀ i, i < 32 → B.toArray[i]? = some (.int .u8 (b.getD i 0)) := fun i hi => by rw [hB]; exact row8_get b i (by omega)
  rw [← hA, ← hB]
  have HAG := Lib.hid hAg
  have HBG := Lib.hid hBg
  clear hA hB hAg hBg
  go_enter Try.func17, Try.ntmps17
  go_upto_region 1 with fail
  refine wp_world fun w1 hw1 => ?_
  have h1 : Blk w1 w.heap.size 25 A := by rw [hw1]; exact (Blk.new w 25 A).alloc _
  have h2 : Blk w1 (w.heap.size + 1) 25 B := by
    rw [hw1]
    have := Blk.new (w.alloc (.cells A.toArray 25)) 25 B
    rw [World.size_alloc] at this; exact this
  have hBe : Below w.heap.size w w1 := by rw [hw1]; exact ((Below.refl _ _).alloc (Nat.le_refl _) _).alloc (by simp) _
  clear hw1
  go_wp2_with ((with_reducible refine wpList_load_row rfl 25 (.tmp 2) rfl w.heap.size ?_ 25 A.toArray (0, 0) _ ?_ Try.underlying25 rfl ?_ ?_); (exact rfl); (exact h1); (rw [List.size_toArray, hAl]; kernel_rfl))
  go_loop [5, 6, 8] (fun _ _ s8 => ∃ i : Nat, i ≤ 32 ∧ s8 = .int .i64 i ∧ lessL a b = lessL (a.drop i) (b.drop i)) (fun _ _ s8 => 32 - (intOf s8).toNat)
  case atStart => exact ⟨0, by omega, rfl, rfl⟩
  case round =>
    obtain ⟨i, hi, rfl, hl⟩ := hrel
    by_cases hlt : i < 32
    · have hix := fun w => run_index_arr (P := Try.prog) Try.underlying25 Try.isAgg5 Try.sizeOf5 hlt (HAG.out i hlt) w
      have cb := h2.cell (by have := HBG.out i hlt; rwa [List.getElem?_toArray] at this)
      rw [less_drop a b i (by omega) (by omega)] at hl
      have HL := Lib.hid hl; clear hl
      have li : (i : Int) < 32 := by omega
      by_cases he : a.getD i 0 = b.getD i 0
      · have hne : (a.getD i 0 != b.getD i 0) = false := bne_eq_false_iff_eq.2 he
        have HE := Lib.hid he; clear he
        generalize a.getD i 0 = x at *
        generalize b.getD i 0 = y at *
        go_wp2
        go_round
        case rel => exact ⟨i + 1, by omega, by go_num, by rw [HL.out, if_pos HE.out]⟩
        case measure => simp [intOf]; omega
      · have hne : (a.getD i 0 != b.getD i 0) = true := bne_iff_ne.2 he
        have HE := Lib.hid he; clear he
        generalize a.getD i 0 = x at *
        generalize b.getD i 0 = y at *
        go_wp2
        go_ret
        exact ⟨ret_bool (by rw [HL.out, if_neg HE.out]), hBe⟩
    · have hi32 : i = 32 := by omega
      subst hi32
      have HL : Hid (lessL a b = false) := by show _ = _; rw [hl, List.drop_eq_nil_of_le (by omega)]; rfl
      clear hl
      go_wp2
      go_ret
      exact ⟨ret_bool HL.out.symm, hBe⟩
end Go.Proofs.Ytdmgfmdmdmalfaa
