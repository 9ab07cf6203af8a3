/- The reference's text of a digest. -/
import Derived.Test.YtigpccfglicjeaaText
namespace Go.Proofs.Ytigpccfglicjeaa
open Go.RowKit

theorem strOf_append (a b : List Int) : strOfNums a ++ strOfNums b = strOfNums (a ++ b) := by
  apply ByteArray.ext
  simp [strOfNums]

set_option maxHeartbeats 4000000 in
theorem refText_any (k : List Int) (hl : k.length = 32) (hb : ∀ i, i < 32 → 0 ≤ k.getD i 0 ∧ k.getD i 0 ≤ 255) (w : World) :
    Calls Try.prog 15 #[.agg (k.map (Value.int .u8)).toArray] w fun e w' => e = .returned (.string (strOfNums (textI k))) ∧ Below w.heap.size w w' := by
  obtain ⟨K, hK⟩ : ∃ K : List Value, K = k.map (Value.int .u8) := ⟨_, rfl⟩
  rw [← hK]
  have HK := Lib.hid hK
  clear hK
  go_enter Try.func15, Try.ntmps15
  go_wp2_with fail
  have hk0 : Blk (w.alloc (.cells K.toArray 24)) w.heap.size 24 K := Blk.new w _ K
  have hB0 : Below w.heap.size w (w.alloc (.cells K.toArray 24)) := (Below.refl _ _).alloc (Nat.le_refl _) _
  have hs0 : Value.string ⟨#[]⟩ = .string (strOfNums (textI (k.take 0))) := by rw [List.take_zero]; rfl
  go_loopw [3, 4] (fun s3 s4 wr => ∃ i : Nat, i ≤ 32 ∧ s4 = .int .i64 i ∧ s3 = .string (strOfNums (textI (k.take i))) ∧ Blk wr w.heap.size 24 K ∧ Below w.heap.size w wr)
    (fun _ s4 _ => 32 - (intOf s4).toNat)
  case atStart => exact ⟨0, by omega, rfl, hs0, hk0, hB0⟩
  case round =>
    clear hk0 hB0 hs0
    obtain ⟨i, hi, rfl, rfl, hk, hB⟩ := hrel
    by_cases hlt : i < 32
    · have li : (i : Int) < 32 := by omega
      have hbi := hb i hlt
      have ck : wr.cell? ⟨w.heap.size, i, none⟩ = some (.int .u8 (k.getD i 0)) := hk.cell (by rw [HK.out, List.getElem?_map, getD_some (by omega)]; rfl)
      have HT := Lib.hid (textI_take k i (by omega))
      have hTl : (strOfNums (textI (k.take i))).size = 2 * i := by rw [strOfNums_size, textI_length, List.length_take, hl]; omega
      generalize k.getD i 0 = b at *
      have e1 : IntKind.i64.wrap b = b := IntWalk.i64_in _ (by omega)
      have e2 : IntKind.i64.wrap (b.tdiv 16) = b / 16 := by rw [Int.tdiv_eq_ediv_of_nonneg hbi.1]; exact IntWalk.i64_in _ (by omega)
      have e3 : b.tmod 16 = b % 16 := Int.tmod_eq_emod_of_nonneg hbi.1
      have hz := hk.lt
      have hcv : (convert 22 9 (.slice (some ⟨wr.heap.size, 0, none⟩) 2 2)).run Try.prog (wr.alloc (.cells #[.int .u8 (dig (b / 16)), .int .u8 (dig (b % 16))] 5)).drew
          = .ok (.string (strOfNums [dig (b / 16), dig (b % 16)])) (wr.alloc (.cells #[.int .u8 (dig (b / 16)), .int .u8 (dig (b % 16))] 5)).drew :=
        run_string (Or.inr ⟨wr.heap.size, 0, 2, rfl, Nat.le_refl _, by show wr.heap.size < (wr.alloc _).heap.size; simp, two_range⟩)
      have hS2 : (strOfNums [dig (b / 16), dig (b % 16)]).size = 2 := rfl
      have HKK := Lib.hid hk
      have HB := Lib.hid hB
      clear hk hB
      go_wp2_with fail
      go_region_held_law (fun w' => w'.cell? ⟨w.heap.size, i, none⟩ = some (.int .u8 b)) (first | assumption | (simp [*, World.cell?_alloc_some])) (first | (go_simp; go_at_call 23; refine (refDigit_any _ (by omega) (by omega) _).mono ?_; rintro e w' ⟨rfl, rfl⟩))
      go_wp2_with fail
      go_roundw
      case rel => exact ⟨i + 1, by omega, by go_num, by rw [HT.out, ← strOf_append], (HKK.out.alloc _).drew, (HB.out.alloc (Nat.le_of_lt hz) _).drew⟩
      case measure => simp [intOf]; omega
    · have hi32 : i = 32 := by omega
      subst hi32
      rw [List.take_of_length_le (show k.length ≤ 32 by omega)]
      go_wp2_with fail
      go_ret
      exact ⟨rfl, hB⟩
end Go.Proofs.Ytigpccfglicjeaa
