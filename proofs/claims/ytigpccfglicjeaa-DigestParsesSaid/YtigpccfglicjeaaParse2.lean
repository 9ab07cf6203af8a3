/- 'Parse' of any text. -/
import Derived.Test.YtigpccfglicjeaaParse
namespace Go.Proofs.Ytigpccfglicjeaa
open Go.RowKit

/-- The two digits of byte i of a text, as they are read. -/
def hiP (z : List Int) (i : Nat) : Int × Bool := undig (z.getD (2 * i) 0)
def loP (z : List Int) (i : Nat) : Int × Bool := undig (z.getD (2 * i + 1) 0)
def goodP (z : List Int) (i : Nat) : Bool := (hiP z i).2 && (loP z i).2
def byteP (z : List Int) (i : Nat) : Int := (hiP z i).1 * 16 + (loP z i).1
def bytesP (z : List Int) : List Int := (List.range 32).map (byteP z)
theorem undig_bounds (c : Int) : 0 ≤ (undig c).1 ∧ (undig c).1 ≤ 15 := by
  unfold undig; split
  · simp only; omega
  · split
    · simp only; omega
    · simp
theorem byteP_bounds (z : List Int) (i : Nat) : 0 ≤ byteP z i ∧ byteP z i ≤ 255 := by
  have h1 := undig_bounds (z.getD (2 * i) 0)
  have h2 := undig_bounds (z.getD (2 * i + 1) 0)
  unfold byteP hiP loP; omega
theorem bytesP_length (z : List Int) : (bytesP z).length = 32 := by simp [bytesP]
theorem bytesP_get (z : List Int) (i : Nat) (hi : i < 32) : (bytesP z).getD i 0 = byteP z i := by
  rw [List.getD_eq_getElem?_getD]; simp [bytesP, hi]
theorem bits_pair (x y : Int) (h0 : 0 ≤ x) (h1 : x ≤ 15) (h2 : 0 ≤ y) (h3 : y ≤ 15) : bits .or .u8 (x * 16) y = x * 16 + y := by
  obtain ⟨n, rfl⟩ : ∃ n : Nat, x = (n : Int) := ⟨x.toNat, by omega⟩
  obtain ⟨m, rfl⟩ : ∃ m : Nat, y = (m : Int) := ⟨y.toNat, by omega⟩
  have key : ∀ n : Nat, n < 16 → ∀ m : Nat, m < 16 → bits .or .u8 ((n : Int) * 16) (m : Int) = (n : Int) * 16 + m := by decide +kernel
  exact key n (by omega) m (by omega)
/-- The zero key. -/
def zero32 : List Value := (zerosI 32).map (Value.int .u8)

/-- What 'Parse' answers of a text. -/
def parsed (z : List Int) : List Int × Int := if z.length = 64 ∧ (List.range 32).all (goodP z) = true then (bytesP z, 0) else (zerosI 32, 2)

set_option maxHeartbeats 4000000 in
theorem parse_any (z : List Int) (hb : ∀ i, 0 ≤ z.getD i 0 ∧ z.getD i 0 ≤ 255) (hm : z.length ≤ 1000) (w : World) :
    Calls Try.prog 14 #[.string (strOfNums z)] w fun e w' => e = .returned (.tuple #[.agg ((parsed z).1.map (Value.int .u8)).toArray, .int .i64 (parsed z).2]) ∧ Below w.heap.size w w' := by
  have hsz : (strOfNums z).size = z.length := strOfNums_size z
  by_cases h64 : z.length = 64
  · go_enter Try.func14, Try.ntmps14
    rw [h64] at hsz
    go_wp2_with fail
    refine wp_world fun w1 hw1 => ?_
    have hk1 : Blk w1 (w.heap.size + 1) 25 (fill 32 (.int .u8 0) []) := by rw [hw1]; exact heap_alloc2_new _ _ _
    have hr1 : Blk w1 w.heap.size 25 ((zerosI 32).map (Value.int .u8)) := by rw [hw1]; exact (Blk.new w 25 ((zerosI 32).map (Value.int .u8))).alloc _
    have hB1 : Below w.heap.size w w1 := by rw [hw1]; exact ((Below.refl _ _).alloc (Nat.le_refl _) _).alloc (by simp) _
    clear hw1
    have HL := Lib.hid h64
    have HBD := Lib.hid hb
    clear h64 hb
    go_loopw [14] (fun s14 wr => ∃ i : Nat, i ≤ 32 ∧ s14 = .int .i64 i ∧ (∀ j, j < i → goodP z j = true) ∧ Blk wr (w.heap.size + 1) 25 (fill 32 (.int .u8 0) (((bytesP z).take i).map (Value.int .u8))) ∧ Blk wr w.heap.size 25 ((zerosI 32).map (Value.int .u8)) ∧ Below w.heap.size w wr)
      (fun s14 _ => 32 - (intOf s14).toNat)
    case atStart => exact ⟨0, by omega, rfl, fun j hj => by omega, hk1, hr1, hB1⟩
    case round =>
      clear hk1 hr1 hB1
      obtain ⟨i, hi, rfl, hg, hk, hr, hB⟩ := hrel
      have HG := Lib.hid hg
      clear hg
      by_cases hlt : i < 32
      · have li : (i : Int) < 32 := by omega
        have hi0 := fun W => str_at z (2 * i) (by have := HL.out; omega) (HBD.out _).1 (HBD.out _).2 W (2 * (i : Int)) (by omega)
        have hi1 := fun W => str_at z (2 * i + 1) (by have := HL.out; omega) (HBD.out _).1 (HBD.out _).2 W (2 * (i : Int) + 1) (by omega)
        have hbl := bytesP_length z
        have hlen : (((bytesP z).take i).map (Value.int .u8)).length = i := by simp; omega
        have cn := hk.cell (fill_next (n := 32) (z := .int .u8 0) (vs := ((bytesP z).take i).map (Value.int .u8)) (by omega))
        have cf := hk.frozen i
        have HS := Lib.hid (fill_set (n := 32) (z := .int .u8 0) (v := .int .u8 (byteP z i)) (vs := ((bytesP z).take i).map (Value.int .u8)) (by omega))
        rw [hlen] at cn HS
        have HT : Hid ((((bytesP z).take i).map (Value.int .u8)) ++ [.int .u8 (byteP z i)] = ((bytesP z).take (i + 1)).map (Value.int .u8)) := by
          show _ = _
          rw [List.take_succ_eq_append_getElem (show i < (bytesP z).length by omega), List.map_append, ← bytesP_get z i hlt, List.getD_eq_getElem?_getD, List.getElem?_eq_getElem (by omega)]; rfl
        have hx := undig_bounds (z.getD (2 * i) 0)
        have hy := undig_bounds (z.getD (2 * i + 1) 0)
        have d0 := fun W => digit_any (z.getD (2 * i) 0) (HBD.out _).1 (HBD.out _).2 W
        have d1 := fun W => digit_any (z.getD (2 * i + 1) 0) (HBD.out _).1 (HBD.out _).2 W
        have HB1 : Hid (byteP z i = (undig (z.getD (2 * i) 0)).1 * 16 + (undig (z.getD (2 * i + 1) 0)).1) := rfl
        have HB2 : Hid (goodP z i = ((undig (z.getD (2 * i) 0)).2 && (undig (z.getD (2 * i + 1) 0)).2)) := rfl
        generalize undig (z.getD (2 * i) 0) = u0 at *
        generalize undig (z.getD (2 * i + 1) 0) = u1 at *
        obtain ⟨x, gx⟩ := u0
        obtain ⟨y, gy⟩ := u1
        simp only at hx hy HB1 HB2 d0 d1
        generalize z.getD (2 * i) 0 = c0 at *
        generalize z.getD (2 * i + 1) 0 = c1 at *
        have hbb := bits_pair x y hx.1 hx.2 hy.1 hy.2
        have e0 : IntKind.i64.wrap (2 * (i : Int)) = 2 * i := IntWalk.i64_in _ (by omega)
        have e1 : IntKind.i64.wrap (2 * (i : Int) + 1) = 2 * i + 1 := IntWalk.i64_in _ (by omega)
        have D0 := Lib.hid d0
        have D1 := Lib.hid d1
        have HK := Lib.hid hk
        have HR := Lib.hid hr
        have HB := Lib.hid hB
        clear d0 d1 hk hr hB hbl
        by_cases hgood : gx = true ∧ gy = true
        · obtain ⟨rfl, rfl⟩ := hgood
          go_wp2_with fail
          refine (D0.out _).mono ?_; rintro e w2 ⟨rfl, rfl⟩
          go_wp2_with fail
          refine (D1.out _).mono ?_; rintro e w3 ⟨rfl, rfl⟩
          go_wp2_with fail
          go_roundw
          case rel =>
            refine ⟨i + 1, by omega, by go_num, fun j hj => ?_, by rw [← HT.out, ← HS.out, HB1.out]; exact HK.out.set _ _, HR.out.set_other (by simp) _, HB.out.setCell (by simp) _⟩
            by_cases hji : j = i
            · subst hji; rw [HB2.out]; rfl
            · exact HG.out j (by omega)
          case measure => simp [intOf]; omega
        · have hbad : (gx && gy) = false := by cases gx <;> cases gy <;> simp_all
          have HP : Hid (parsed z = (zerosI 32, 2)) := by
            show _ = _
            unfold parsed
            rw [if_neg]
            rintro ⟨_, h⟩
            have := List.all_eq_true.1 h i (List.mem_range.2 hlt)
            rw [HB2.out, hbad] at this; cases this
          have Hbad := Lib.hid hbad
          clear hbad hgood
          have hZs : (zero32.toArray).size = 32 := rfl
          have hcase : gx = false ∨ (gx = true ∧ gy = false) := by have := Hbad.out; revert this; cases gx <;> cases gy <;> simp
          rcases hcase with rfl | ⟨rfl, rfl⟩
          all_goals
            go_wp2_with fail
            refine (D0.out _).mono ?_; rintro e w2 ⟨rfl, rfl⟩
            go_wp2_with fail
            refine (D1.out _).mono ?_; rintro e w3 ⟨rfl, rfl⟩
            go_wp2_with ((with_reducible refine wpList_store_row rfl 25 (.tmp 2) (.tmp 40) rfl w.heap.size zero32.toArray ?_ ?_ 25 zero32.toArray ?_ ?_ ?_ ?_ ?_); (exact rfl); (exact rfl); (exact HR.out); (rw [hZs]; kernel_rfl); (exact rfl); (exact all_oneCell_toArray (ones_int _ _)))
            exact bodyPost_ret (v := .tuple #[.agg zero32.toArray, .int .i64 2]) (by simp [results, Try.results14, asAddr, run_loadVar_row (P := Try.prog) (wr.setRow w.heap.size zero32.toArray) w.heap.size 25 25 zero32.toArray (0, 0) _ (HR.out.setRow (cs' := zero32)) Try.underlying25 rfl (by rw [hZs]; kernel_rfl)]) rfl ⟨by rw [HP.out]; rfl, Below.setRow HB.out (Nat.le_refl _) _⟩
      · have hi32 : i = 32 := by omega
        subst hi32
        have HP : Hid (parsed z = (bytesP z, 0)) := by
          show _ = _
          unfold parsed
          rw [if_pos ⟨HL.out, List.all_eq_true.2 fun j hj => HG.out j (List.mem_range.1 hj)⟩]
        have hbl := bytesP_length z
        rw [List.take_of_length_le (show (bytesP z).length ≤ 32 by omega), fill_full (by simpa using hbl)] at hk
        obtain ⟨KK, hKK⟩ : ∃ KK : List Value, KK = (bytesP z).map (Value.int .u8) := ⟨_, rfl⟩
        rw [← hKK] at hk
        have hKs : KK.toArray.size = 32 := by rw [hKK]; simpa using hbl
        have hKo : KK.toArray.all (·.oneCell') = true := by rw [hKK]; exact all_oneCell_toArray (ones_int _ _)
        have HKE := Lib.hid hKK
        clear hKK hbl
        go_wp2_with (first
          | ((with_reducible refine wpList_load_row rfl 25 (.tmp 4) rfl (w.heap.size + 1) ?_ 25 KK.toArray (0, 0) _ ?_ Try.underlying25 rfl ?_ ?_); (exact rfl); (exact hk); (rw [hKs]; kernel_rfl))
          | ((with_reducible refine wpList_store_row rfl 25 (.tmp 2) (.tmp 48) rfl w.heap.size KK.toArray ?_ ?_ 25 ((zerosI 32).map (Value.int .u8)).toArray ?_ ?_ ?_ ?_ ?_); (exact rfl); (exact rfl); (exact hr); (rw [hKs]; kernel_rfl); (rw [hKs]; rfl); (exact hKo)))
        have hlv := run_loadVar_row (P := Try.prog) (wr.setRow w.heap.size KK.toArray) w.heap.size 25 25 KK.toArray (0, 0) _ (hr.setRow (cs' := KK)) Try.underlying25 rfl (by rw [hKs]; kernel_rfl)
        exact bodyPost_ret (v := .tuple #[.agg KK.toArray, .int .i64 0]) (by simp [results, Try.results14, asAddr, hlv]) rfl ⟨by rw [HKE.out, HP.out], Below.setRow hB (Nat.le_refl _) _⟩
  · have HP : Hid (parsed z = (zerosI 32, 2)) := by
      show _ = _
      unfold parsed
      rw [if_neg fun h => h64 h.1]
    have hne : ¬ ((z.length : Int) = 64) := by omega
    have hZs : (zero32.toArray).size = 32 := rfl
    go_enter Try.func14, Try.ntmps14
    go_upto_region 3 with (fail)
    refine wp_world fun w1 hw1 => ?_
    have hr : Blk w1 w.heap.size 25 zero32 := by rw [hw1]; exact (Blk.new w 25 zero32).alloc _
    have hB : Below w.heap.size w w1 := by rw [hw1]; exact ((Below.refl _ _).alloc (Nat.le_refl _) _).alloc (by simp) _
    have HR := Lib.hid hr
    have HB := Lib.hid hB
    clear hr hB hw1
    go_wp2_with ((with_reducible refine wpList_store_row rfl 25 (.tmp 2) (.tmp 13) rfl w.heap.size zero32.toArray ?_ ?_ 25 zero32.toArray ?_ ?_ ?_ ?_ ?_); (exact rfl); (exact rfl); (exact HR.out); (rw [hZs]; kernel_rfl); (exact rfl); (exact all_oneCell_toArray (ones_int _ _)))
    exact bodyPost_ret (v := .tuple #[.agg zero32.toArray, .int .i64 2]) (by simp [results, Try.results14, asAddr, run_loadVar_row (P := Try.prog) (w1.setRow w.heap.size zero32.toArray) w.heap.size 25 25 zero32.toArray (0, 0) _ (HR.out.setRow (cs' := zero32)) Try.underlying25 rfl (by rw [hZs]; kernel_rfl)]) rfl ⟨by rw [HP.out]; rfl, Below.setRow HB.out (Nat.le_refl _) _⟩
end Go.Proofs.Ytigpccfglicjeaa
