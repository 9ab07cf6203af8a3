/- 'Parse' of a digest's own text. -/
import Derived.Test.YtigpccfglicjeaaRefText
namespace Go.Proofs.Ytigpccfglicjeaa
open Go.RowKit

theorem undig_dig (n : Int) (h0 : 0 ≤ n) (h1 : n < 16) : undig (dig n) = (n, true) := by
  unfold undig dig
  by_cases h : n < 10
  · rw [if_pos h, if_pos (by omega)]; congr 1; omega
  · rw [if_neg h, if_neg (by omega), if_pos (by omega)]; congr 1; omega
theorem dig_bounds (n : Int) (h0 : 0 ≤ n) (h1 : n < 16) : 0 ≤ dig n ∧ dig n ≤ 255 := by
  unfold dig; split <;> omega
theorem str_at (z : List Int) (j : Nat) (hj : j < z.length) (h0 : 0 ≤ z.getD j 0) (h1 : z.getD j 0 ≤ 255) (w : World) (x : Int) (hx : x = (j : Int)) :
    (Instr.index 9 (.string (strOfNums z)) (.int .i64 x)).run Try.prog w = .ok (.int .u8 (z.getD j 0)) w := by
  subst hx
  rw [run_index_string w _ _ _ _ Try.underlying9, dif_pos ⟨by omega, by rw [strOfNums_size]; omega⟩]
  refine congrArg (fun y => Result.ok (Value.int .u8 y) w) ?_
  have e : z.getD j 0 = z[j] := by rw [List.getD_eq_getElem?_getD, List.getElem?_eq_getElem hj]; rfl
  rw [e] at h0 h1 ⊢
  show (((z.map fun n => UInt8.ofNat n.toNat).toArray[j]'(by simpa using hj)).toNat : Int) = z[j]
  simp only [List.getElem_toArray, List.getElem_map, UInt8.toNat_ofNat']
  omega
theorem textI_at (k : List Int) : ∀ (i : Nat), i < k.length → (textI k).getD (2 * i) 0 = dig (k.getD i 0 / 16) ∧ (textI k).getD (2 * i + 1) 0 = dig (k.getD i 0 % 16) := by
  induction k with
  | nil => intro i hi; simp at hi
  | cons a k ih =>
    intro i hi
    have e : textI (a :: k) = dig (a / 16) :: dig (a % 16) :: textI k := by simp [textI]
    rw [e]
    cases i with
    | zero => exact ⟨rfl, rfl⟩
    | succ i =>
      have := ih i (by simpa using hi)
      rw [show 2 * (i + 1) = 2 * i + 1 + 1 by omega]
      exact this

theorem bits_byte (b : Int) (h0 : 0 ≤ b) (h1 : b ≤ 255) : bits .or .u8 (b / 16 * 16) (b % 16) = b := by
  obtain ⟨n, rfl⟩ : ∃ n : Nat, b = (n : Int) := ⟨b.toNat, by omega⟩
  have key : ∀ n : Nat, n < 256 → bits .or .u8 ((n : Int) / 16 * 16) ((n : Int) % 16) = (n : Int) := by decide +kernel
  exact key n (by omega)

set_option maxHeartbeats 4000000 in
theorem parse_text (k : List Int) (hl : k.length = 32) (hb : ∀ i, i < 32 → 0 ≤ k.getD i 0 ∧ k.getD i 0 ≤ 255) (w : World) :
    Calls Try.prog 14 #[.string (strOfNums (textI k))] w fun e w' => e = .returned (.tuple #[.agg (k.map (Value.int .u8)).toArray, .int .i64 0]) ∧ Below w.heap.size w w' := by
  have hsz : (strOfNums (textI k)).size = 64 := by rw [strOfNums_size, textI_length, hl]
  have hat := textI_at k
  have htl : (textI k).length = 64 := by rw [textI_length, hl]
  obtain ⟨z, hz⟩ : ∃ z, z = textI k := ⟨_, rfl⟩
  rw [← hz] at hsz hat htl ⊢
  clear hz
  go_enter Try.func14, Try.ntmps14
  go_wp2_with fail
  refine wp_world fun w1 hw1 => ?_
  have hk1 : Blk w1 (w.heap.size + 1) 25 (fill 32 (.int .u8 0) []) := by rw [hw1]; exact heap_alloc2_new _ _ _
  have hr1 : Blk w1 w.heap.size 25 ((zerosI 32).map (Value.int .u8)) := by rw [hw1]; exact (Blk.new w 25 ((zerosI 32).map (Value.int .u8))).alloc _
  have hB1 : Below w.heap.size w w1 := by rw [hw1]; exact ((Below.refl _ _).alloc (Nat.le_refl _) _).alloc (by simp) _
  clear hw1
  go_loopw [14] (fun s14 wr => ∃ i : Nat, i ≤ 32 ∧ s14 = .int .i64 i ∧ Blk wr (w.heap.size + 1) 25 (fill 32 (.int .u8 0) ((k.take i).map (Value.int .u8))) ∧ Blk wr w.heap.size 25 ((zerosI 32).map (Value.int .u8)) ∧ Below w.heap.size w wr)
    (fun s14 _ => 32 - (intOf s14).toNat)
  case atStart => exact ⟨0, by omega, rfl, hk1, hr1, hB1⟩
  case round =>
    clear hk1 hr1 hB1
    obtain ⟨i, hi, rfl, hk, hr, hB⟩ := hrel
    by_cases hlt : i < 32
    · have li : (i : Int) < 32 := by omega
      have hbi := hb i hlt
      obtain ⟨ha0, ha1⟩ := hat i (by omega)
      have hi0 := fun W => str_at z (2 * i) (by omega) (by rw [ha0]; exact (dig_bounds _ (by omega) (by omega)).1) (by rw [ha0]; exact (dig_bounds _ (by omega) (by omega)).2) W (2 * (i : Int)) (by omega)
      have hi1 := fun W => str_at z (2 * i + 1) (by omega) (by rw [ha1]; exact (dig_bounds _ (by omega) (by omega)).1) (by rw [ha1]; exact (dig_bounds _ (by omega) (by omega)).2) W (2 * (i : Int) + 1) (by omega)
      rw [ha0] at hi0
      rw [ha1] at hi1
      have hlen : ((k.take i).map (Value.int .u8)).length = i := by simp; omega
      have cn := hk.cell (fill_next (n := 32) (z := .int .u8 0) (vs := (k.take i).map (Value.int .u8)) (by omega))
      have cf := hk.frozen i
      have HS := Lib.hid (fill_set (n := 32) (z := .int .u8 0) (v := .int .u8 (k.getD i 0)) (vs := (k.take i).map (Value.int .u8)) (by omega))
      rw [hlen] at cn HS
      have HT : Hid (((k.take i).map (Value.int .u8)) ++ [.int .u8 (k.getD i 0)] = (k.take (i + 1)).map (Value.int .u8)) := by
        show _ = _
        rw [List.take_succ_eq_append_getElem (show i < k.length by omega), List.map_append, List.getD_eq_getElem?_getD, List.getElem?_eq_getElem (by omega)]; rfl
      generalize k.getD i 0 = b at *
      have u0 := undig_dig (b / 16) (by omega) (by omega)
      have u1 := undig_dig (b % 16) (by omega) (by omega)
      have d0 := fun W => digit_any (dig (b / 16)) (dig_bounds _ (by omega) (by omega)).1 (dig_bounds _ (by omega) (by omega)).2 W
      have d1 := fun W => digit_any (dig (b % 16)) (dig_bounds _ (by omega) (by omega)).1 (dig_bounds _ (by omega) (by omega)).2 W
      rw [u0] at d0
      rw [u1] at d1
      have hbb := bits_byte b hbi.1 hbi.2
      have e0 : IntKind.i64.wrap (2 * (i : Int)) = 2 * i := IntWalk.i64_in _ (by omega)
      have e1 : IntKind.i64.wrap (2 * (i : Int) + 1) = 2 * i + 1 := IntWalk.i64_in _ (by omega)
      have D0 := Lib.hid d0
      have D1 := Lib.hid d1
      have HK := Lib.hid hk
      have HR := Lib.hid hr
      have HB := Lib.hid hB
      clear d0 d1 hk hr hB ha0 ha1 hat u0 u1
      go_wp2_with fail
      refine (D0.out _).mono ?_; rintro e w2 ⟨rfl, rfl⟩
      go_wp2_with fail
      refine (D1.out _).mono ?_; rintro e w3 ⟨rfl, rfl⟩
      go_wp2_with fail
      go_roundw
      case rel => exact ⟨i + 1, by omega, by go_num, by rw [← HT.out, ← HS.out]; exact HK.out.set _ _, HR.out.set_other (by simp) _, HB.out.setCell (by simp) _⟩
      case measure => simp [intOf]; omega
    · have hi32 : i = 32 := by omega
      subst hi32
      rw [List.take_of_length_le (show k.length ≤ 32 by omega), fill_full (by simpa using hl)] at hk
      obtain ⟨KK, hKK⟩ : ∃ KK : List Value, KK = k.map (Value.int .u8) := ⟨_, rfl⟩
      rw [← hKK] at hk
      have hKs : KK.toArray.size = 32 := by rw [hKK]; simpa using hl
      have hKo : KK.toArray.all (·.oneCell') = true := by rw [hKK]; exact all_oneCell_toArray (ones_int _ _)
      have HKE := Lib.hid hKK
      clear hKK
      go_wp2_with (first
        | ((with_reducible refine wpList_load_row rfl 25 (.tmp 4) rfl (w.heap.size + 1) ?_ 25 KK.toArray (0, 0) _ ?_ Try.underlying25 rfl ?_ ?_); (exact rfl); (exact hk); (rw [hKs]; kernel_rfl))
        | ((with_reducible refine wpList_store_row rfl 25 (.tmp 2) (.tmp 48) rfl w.heap.size KK.toArray ?_ ?_ 25 ((zerosI 32).map (Value.int .u8)).toArray ?_ ?_ ?_ ?_ ?_); (exact rfl); (exact rfl); (exact hr); (rw [hKs]; kernel_rfl); (rw [hKs]; rfl); (exact hKo)))
      have hlv := run_loadVar_row (P := Try.prog) (wr.setRow w.heap.size KK.toArray) w.heap.size 25 25 KK.toArray (0, 0) _ (hr.setRow (cs' := KK)) Try.underlying25 rfl (by rw [hKs]; kernel_rfl)
      exact bodyPost_ret (v := .tuple #[.agg KK.toArray, .int .i64 0]) (by simp [results, Try.results14, asAddr, hlv]) rfl ⟨by rw [HKE.out], Below.setRow hB (Nat.le_refl _) _⟩
end Go.Proofs.Ytigpccfglicjeaa
