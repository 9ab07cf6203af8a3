/- The reference's 'Parse' of any text. -/
import Derived.Test.YtigpccfglicjeaaParse2
namespace Go.Proofs.Ytigpccfglicjeaa
open Go.RowKit

theorem dig_undig (c : Int) (h : (undig c).2 = true) : dig (undig c).1 = c := by
  unfold undig at *
  by_cases h1 : 48 ≤ c ∧ c ≤ 57
  · rw [if_pos h1]; unfold dig; simp only; rw [if_pos (by omega)]; omega
  · rw [if_neg h1] at h ⊢
    by_cases h2 : 97 ≤ c ∧ c ≤ 102
    · rw [if_pos h2]; unfold dig; simp only; rw [if_neg (by omega)]; omega
    · rw [if_neg h2] at h; cases h
/-- Of which numbers two signs are the digits. -/
theorem match_iff (c0 c1 x y n : Int) (gx gy : Bool) (hx : undig c0 = (x, gx)) (hy : undig c1 = (y, gy)) (h0 : 0 ≤ n) (h1 : n < 256) :
    (dig (n / 16) = c0 ∧ dig (n % 16) = c1) ↔ ((gx && gy) = true ∧ n = x * 16 + y) := by
  have bx := undig_bounds c0
  have by' := undig_bounds c1
  have dx := dig_undig c0
  have dy := dig_undig c1
  rw [hx] at bx dx
  rw [hy] at by' dy
  simp only at bx by' dx dy
  constructor
  · rintro ⟨a, b⟩
    have ea := undig_dig (n / 16) (by omega) (by omega)
    have eb := undig_dig (n % 16) (by omega) (by omega)
    rw [a, hx] at ea
    rw [b, hy] at eb
    injection ea with ea1 ea2
    injection eb with eb1 eb2
    exact ⟨by rw [ea2, eb2]; rfl, by omega⟩
  · rintro ⟨a, b⟩
    obtain ⟨rfl, rfl⟩ : gx = true ∧ gy = true := by revert a; cases gx <;> cases gy <;> simp
    rw [b, show (x * 16 + y) / 16 = x by omega, show (x * 16 + y) % 16 = y by omega]
    exact ⟨dx rfl, dy rfl⟩

theorem set_same {α : Type} {l : List α} {i : Nat} {v : α} (h : l[i]? = some v) : l.set i v = l := by
  apply List.ext_getElem?
  intro j
  rw [List.getElem?_set]
  split
  · rename_i e; subst e; rw [h]; simp [(List.getElem?_eq_some_iff.1 h).1]
  · rfl
def refParsed (z : List Int) : List Int × Bool := if z.length = 64 ∧ (List.range 32).all (goodP z) = true then (bytesP z, true) else (zerosI 32, false)
/-- Whether the number has been met below n, and what stands then. -/
def fnd (g : Bool) (b : Int) (n : Nat) : Bool := g && decide (b < n)
def val (g : Bool) (b : Int) (n : Nat) : Int := if fnd g b n = true then b else 0
theorem fnd_hit (b : Int) (n : Nat) (h : (n : Int) = b) : fnd true b (n + 1) = true ∧ val true b (n + 1) = n := by
  have : fnd true b (n + 1) = true := by unfold fnd; simp; omega
  exact ⟨this, by unfold val; rw [if_pos this]; omega⟩
theorem fnd_miss (g : Bool) (b : Int) (n : Nat) (h : ¬ (g = true ∧ (n : Int) = b)) : fnd g b (n + 1) = fnd g b n ∧ val g b (n + 1) = val g b n := by
  have : fnd g b (n + 1) = fnd g b n := by
    unfold fnd
    cases g
    · rfl
    · have hn : (n : Int) ≠ b := fun k => h ⟨rfl, k⟩
      simp only [Bool.true_and, decide_eq_decide]; omega
  exact ⟨this, by unfold val; rw [this]⟩

set_option maxHeartbeats 1000000 in
theorem refParse_any (z : List Int) (hb : ∀ i, 0 ≤ z.getD i 0 ∧ z.getD i 0 ≤ 255) (hm : z.length ≤ 1000) (w : World) :
    Calls Try.prog 16 #[.string (strOfNums z)] w fun e w' => e = .returned (.tuple #[.agg ((refParsed z).1.map (Value.int .u8)).toArray, .bool (refParsed z).2]) ∧ Below w.heap.size w w' := by
  have hsz : (strOfNums z).size = z.length := strOfNums_size z
  have hZs : (zero32.toArray).size = 32 := rfl
  by_cases h64 : z.length = 64
  · go_enter Try.func16, Try.ntmps16
    rw [h64] at hsz
    go_wp2_with fail
    refine wp_world fun w1 hw1 => ?_
    have hk1 : Blk w1 (w.heap.size + 1) 24 (fill 32 (.int .u8 0) []) := by rw [hw1]; exact heap_alloc2_new _ _ _
    have hr1 : Blk w1 w.heap.size 24 ((zerosI 32).map (Value.int .u8)) := by rw [hw1]; exact (Blk.new w 24 ((zerosI 32).map (Value.int .u8))).alloc _
    have hB1 : Below w.heap.size w w1 := by rw [hw1]; exact ((Below.refl _ _).alloc (Nat.le_refl _) _).alloc (by simp) _
    clear hw1
    have HL := Lib.hid h64
    have HBD := Lib.hid hb
    clear h64 hb
    go_loopw [5] (fun s5 wr => ∃ i : Nat, i ≤ 32 ∧ s5 = .int .i64 i ∧ (∀ j, j < i → goodP z j = true) ∧ Blk wr (w.heap.size + 1) 24 (fill 32 (.int .u8 0) (((bytesP z).take i).map (Value.int .u8))) ∧ Blk wr w.heap.size 24 ((zerosI 32).map (Value.int .u8)) ∧ Below w.heap.size w wr)
      (fun s5 _ => 32 - (intOf s5).toNat)
    case atStart => exact ⟨0, by omega, rfl, fun j hj => by omega, hk1, hr1, hB1⟩
    case round =>
      clear hk1 hr1 hB1
      obtain ⟨i, hi, rfl, hg, hk, hr, hB⟩ := hrel
      have HG := Lib.hid hg
      clear hg
      by_cases hlt : i < 32
      · have li : (i : Int) < 32 := by omega
        have hi0 := fun W => str_at z (2 * i) (by have := HL.out; omega) (HBD.out _).1 (HBD.out _).2 W (2 * (i : Int)) (by omega)
        have hi1 := fun W => str_at z (2 * i + 1) (by have := HL.out; omega) (HBD.out _).1 (HBD.out _).2 W (2 * (i : Int) + 1) (by omega)
        have hbl := bytesP_length z
        have hlen : (((bytesP z).take i).map (Value.int .u8)).length = i := by simp; omega
        have HS := Lib.hid (fill_set (n := 32) (z := .int .u8 0) (v := .int .u8 (byteP z i)) (vs := ((bytesP z).take i).map (Value.int .u8)) (by omega))
        have HS0 : Hid ((fill 32 (.int .u8 0) (((bytesP z).take i).map (Value.int .u8))).set i (.int .u8 0) = fill 32 (.int .u8 0) (((bytesP z).take i).map (Value.int .u8))) := by
          show _ = _
          have := fill_next (n := 32) (z := .int .u8 0) (vs := ((bytesP z).take i).map (Value.int .u8)) (by omega)
          rw [hlen] at this
          exact set_same this
        rw [hlen] at HS
        have HT : Hid ((((bytesP z).take i).map (Value.int .u8)) ++ [.int .u8 (byteP z i)] = ((bytesP z).take (i + 1)).map (Value.int .u8)) := by
          show _ = _
          rw [List.take_succ_eq_append_getElem (show i < (bytesP z).length by omega), List.map_append, ← bytesP_get z i hlt, List.getD_eq_getElem?_getD, List.getElem?_eq_getElem (by omega)]; rfl
        have hfl : (fill 32 (.int .u8 0) (((bytesP z).take i).map (Value.int .u8))).length = 32 := fill_length (by omega)
        have hbb := byteP_bounds z i
        have hM := fun n h0 h1 => match_iff (z.getD (2 * i) 0) (z.getD (2 * i + 1) 0) _ _ n _ _ rfl rfl h0 h1
        have HM : Hid (∀ n : Int, 0 ≤ n → n < 256 → ((dig (n / 16) = z.getD (2 * i) 0 ∧ dig (n % 16) = z.getD (2 * i + 1) 0) ↔ (goodP z i = true ∧ n = byteP z i))) := hM
        have HX : Hid (fill 32 (.int .u8 0) (((bytesP z).take i).map (Value.int .u8)) = fill 32 (.int .u8 0) (((bytesP z).take i).map (Value.int .u8))) := rfl
        clear hM hbl
        have hc0 := HBD.out (2 * i)
        have hc1 := HBD.out (2 * i + 1)
        obtain ⟨g, hgp⟩ : ∃ g, goodP z i = g := ⟨_, rfl⟩
        rw [hgp] at HM
        have HGP := Lib.hid hgp
        clear hgp
        generalize byteP z i = b at *
        generalize z.getD (2 * i) 0 = c0 at *
        generalize z.getD (2 * i + 1) 0 = c1 at *
        generalize fill 32 (.int .u8 0) (((bytesP z).take i).map (Value.int .u8)) = L at hk HS HS0 hfl
        have hk0 : Blk wr (w.heap.size + 1) 24 (L.set i (.int .u8 (val g b 0))) := by
          have : val g b 0 = 0 := by unfold val fnd; rw [if_neg]; simp; omega
          rw [this, HS0.out]; exact hk
        have hf0 : Value.bool false = .bool (fnd g b 0) := by
          congr 1; unfold fnd; symm; simp; omega
        clear HX hk
        go_wp2_with fail
        go_loopw [6, 7] (fun s6 s7 wq => ∃ n : Nat, n ≤ 256 ∧ s7 = .int .i64 n ∧ s6 = .bool (fnd g b n) ∧ Blk wq (w.heap.size + 1) 24 (L.set i (.int .u8 (val g b n))) ∧ Blk wq w.heap.size 24 ((zerosI 32).map (Value.int .u8)) ∧ Below w.heap.size w wq)
          (fun _ s7 _ => 256 - (intOf s7).toNat)
        case atStart => exact ⟨0, by omega, rfl, hf0, hk0, hr, hB⟩
        case round =>
          clear hk0 hf0 hr hB
          obtain ⟨n, hn, rfl, rfl, hk, hr, hB⟩ := hrel
          by_cases hnlt : n < 256
          · have ln : (n : Int) < 256 := by omega
            have e0 : IntKind.i64.wrap (2 * (i : Int)) = 2 * i := IntWalk.i64_in _ (by omega)
            have e1 : IntKind.i64.wrap (2 * (i : Int) + 1) = 2 * i + 1 := IntWalk.i64_in _ (by omega)
            have e2 : IntKind.i64.wrap ((n : Int).tdiv 16) = n / 16 := by rw [Int.tdiv_eq_ediv_of_nonneg (by omega)]; exact IntWalk.i64_in _ (by omega)
            have e3 : (n : Int).tmod 16 = n % 16 := Int.tmod_eq_emod_of_nonneg (by omega)
            have e4 : IntKind.u8.wrap (n : Int) = n := by rw [IntKind.wrap_u8]; omega
            have hm := HM.out n (by omega) ln
            have cn := hk.cell (i := i) (v := Value.int .u8 (val g b n)) (by rw [List.getElem?_set_self (by omega)])
            have cf := hk.frozen i
            have HK := Lib.hid hk
            have HR := Lib.hid hr
            have HB := Lib.hid hB
            clear hk hr hB
            have D0 := Lib.hid fun W => refDigit_any ((n : Int) / 16) (by omega) (by omega) W
            have D1 := Lib.hid fun W => refDigit_any ((n : Int) % 16) (by omega) (by omega) W
            by_cases hp : dig (n / 16) = c0
            · have hpd : (dig ((n : Int) / 16) == c0) = true := by simpa using hp
              by_cases hq : dig (n % 16) = c1
              · have hqd : (dig ((n : Int) % 16) == c1) = true := by simpa using hq
                have hgb := hm.1 ⟨hp, hq⟩
                obtain ⟨rfl, hnb⟩ := hgb
                have HF := Lib.hid (fnd_hit b n hnb)
                clear hm hp hq hnb
                go_wp2_with fail
                go_quiet ((go_at_call 23; first | (with_reducible exact quiet_left (D0.out _)) | (with_reducible exact quiet_left (D1.out _))))
                go_wp2_with fail
                go_roundw
                case rel =>
                  refine ⟨n + 1, by omega, by go_num, by rw [HF.out.1], ?_, (HR.out.drewN _).set_other (by simp) _, (Below.drewN HB.out _).setCell (by simp) _⟩
                  have := (HK.out.drewN nq).set i (.int .u8 (n : Int))
                  rw [List.set_set] at this
                  rw [HF.out.2]; exact this
                case measure => simp [intOf]; omega
              · have hqd : (dig ((n : Int) % 16) == c1) = false := by simpa using hq
                have HF := Lib.hid (fnd_miss g b n fun k => hq (hm.2 k).2)
                clear hm hp hq
                go_wp2_with fail
                go_quiet ((go_at_call 23; first | (with_reducible exact quiet_left (D0.out _)) | (with_reducible exact quiet_left (D1.out _))))
                go_wp2_with fail
                go_roundw
                case rel => exact ⟨n + 1, by omega, by go_num, by rw [HF.out.1], by rw [HF.out.2]; exact HK.out.drewN _, HR.out.drewN _, Below.drewN HB.out _⟩
                case measure => simp [intOf]; omega
            · have hpd : (dig ((n : Int) / 16) == c0) = false := by simpa using hp
              have HF := Lib.hid (fnd_miss g b n fun k => hp (hm.2 k).1)
              clear hm hp
              go_wp2_with fail
              go_quiet ((go_at_call 23; first | (with_reducible exact quiet_left (D0.out _)) | (with_reducible exact quiet_left (D1.out _))))
              go_wp2_with fail
              go_roundw
              case rel => exact ⟨n + 1, by omega, by go_num, by rw [HF.out.1], by rw [HF.out.2]; exact HK.out.drewN _, HR.out.drewN _, Below.drewN HB.out _⟩
              case measure => simp [intOf]; omega
          · obtain rfl : n = 256 := by omega
            have hfe : fnd g b 256 = g := by
              have : decide (b < ((256 : Nat) : Int)) = true := decide_eq_true (by omega)
              unfold fnd; rw [this, Bool.and_true]
            have HV : Hid (val g b 256 = if g = true then b else 0) := by show _ = _; unfold val; rw [hfe]
            rw [hfe] at *
            have HK := Lib.hid hk
            have HR := Lib.hid hr
            have HB := Lib.hid hB
            clear hk hr hB hfe
            cases g
            · have HP : Hid (refParsed z = (zerosI 32, false)) := by
                show _ = _
                unfold refParsed
                rw [if_neg]
                rintro ⟨_, h⟩
                have := List.all_eq_true.1 h i (List.mem_range.2 hlt)
                rw [HGP.out] at this; cases this
              go_wp2_with ((with_reducible refine wpList_store_row rfl 24 (.tmp 2) (.tmp 45) rfl w.heap.size zero32.toArray ?_ ?_ 24 zero32.toArray ?_ ?_ ?_ ?_ ?_); (exact rfl); (exact rfl); (exact HR.out); (rw [hZs]; kernel_rfl); (exact rfl); (exact all_oneCell_toArray (ones_int _ _)))
              exact bodyPost_ret (v := .tuple #[.agg zero32.toArray, .bool false]) (by simp [results, Try.results16, asAddr, run_loadVar_row (P := Try.prog) (wr.setRow w.heap.size zero32.toArray) w.heap.size 24 24 zero32.toArray (0, 0) _ (HR.out.setRow (cs' := zero32)) Try.underlying24 rfl (by rw [hZs]; kernel_rfl)]) rfl ⟨by rw [HP.out]; rfl, Below.setRow HB.out (Nat.le_refl _) _⟩
            · go_wp2_with fail
              go_roundw
              case rel =>
                refine ⟨i + 1, by omega, by go_num, fun j hj => ?_, ?_, HR.out, HB.out⟩
                · by_cases hji : j = i
                  · subst hji; exact HGP.out
                  · exact HG.out j (by omega)
                · rw [← HT.out, ← HS.out]; have := HK.out; rw [HV.out, if_pos rfl] at this; exact this
              case measure => simp [intOf]; omega
      · have hi32 : i = 32 := by omega
        subst hi32
        have HP : Hid (refParsed z = (bytesP z, true)) := by
          show _ = _
          unfold refParsed
          rw [if_pos ⟨HL.out, List.all_eq_true.2 fun j hj => HG.out j (List.mem_range.1 hj)⟩]
        have hbl := bytesP_length z
        rw [List.take_of_length_le (show (bytesP z).length ≤ 32 by omega), fill_full (by simpa using hbl)] at hk
        obtain ⟨KK, hKK⟩ : ∃ KK : List Value, KK = (bytesP z).map (Value.int .u8) := ⟨_, rfl⟩
        rw [← hKK] at hk
        have hKs : KK.toArray.size = 32 := by rw [hKK]; simpa using hbl
        have hKo : KK.toArray.all (·.oneCell') = true := by rw [hKK]; exact all_oneCell_toArray (ones_int _ _)
        have HKE := Lib.hid hKK
        clear hKK hbl
        go_wp2_with (first
          | ((with_reducible refine wpList_load_row rfl 24 (.tmp 4) rfl (w.heap.size + 1) ?_ 24 KK.toArray (0, 0) _ ?_ Try.underlying24 rfl ?_ ?_); (exact rfl); (exact hk); (rw [hKs]; kernel_rfl))
          | ((with_reducible refine wpList_store_row rfl 24 (.tmp 2) (.tmp 46) rfl w.heap.size KK.toArray ?_ ?_ 24 ((zerosI 32).map (Value.int .u8)).toArray ?_ ?_ ?_ ?_ ?_); (exact rfl); (exact rfl); (exact hr); (rw [hKs]; kernel_rfl); (rw [hKs]; rfl); (exact hKo)))
        have hlv := run_loadVar_row (P := Try.prog) (wr.setRow w.heap.size KK.toArray) w.heap.size 24 24 KK.toArray (0, 0) _ (hr.setRow (cs' := KK)) Try.underlying24 rfl (by rw [hKs]; kernel_rfl)
        exact bodyPost_ret (v := .tuple #[.agg KK.toArray, .bool true]) (by simp [results, Try.results16, asAddr, hlv]) rfl ⟨by rw [HKE.out, HP.out], Below.setRow hB (Nat.le_refl _) _⟩
  · have HP : Hid (refParsed z = (zerosI 32, false)) := by
      show _ = _
      unfold refParsed
      rw [if_neg fun h => h64 h.1]
    have hne : ¬ ((z.length : Int) = 64) := by omega
    go_enter Try.func16, Try.ntmps16
    go_upto_region 3 with (fail)
    refine wp_world fun w1 hw1 => ?_
    have hr : Blk w1 w.heap.size 24 zero32 := by rw [hw1]; exact (Blk.new w 24 zero32).alloc _
    have hk : Blk w1 (w.heap.size + 1) 24 zero32 := by rw [hw1]; exact heap_alloc2_new _ _ _
    have hB : Below w.heap.size w w1 := by rw [hw1]; exact ((Below.refl _ _).alloc (Nat.le_refl _) _).alloc (by simp) _
    have HR := Lib.hid hr
    have HB := Lib.hid hB
    have HK := Lib.hid hk
    clear hr hB hw1 hk
    go_wp2_with (first
      | ((with_reducible refine wpList_load_row rfl 24 (.tmp 4) rfl (w.heap.size + 1) ?_ 24 zero32.toArray (0, 0) _ ?_ Try.underlying24 rfl ?_ ?_); (exact rfl); (exact HK.out); (rw [hZs]; kernel_rfl))
      | ((with_reducible refine wpList_store_row rfl 24 (.tmp 2) (.tmp 11) rfl w.heap.size zero32.toArray ?_ ?_ 24 zero32.toArray ?_ ?_ ?_ ?_ ?_); (exact rfl); (exact rfl); (exact HR.out); (rw [hZs]; kernel_rfl); (exact rfl); (exact all_oneCell_toArray (ones_int _ _))))
    exact bodyPost_ret (v := .tuple #[.agg zero32.toArray, .bool false]) (by simp [results, Try.results16, asAddr, run_loadVar_row (P := Try.prog) (w1.setRow w.heap.size zero32.toArray) w.heap.size 24 24 zero32.toArray (0, 0) _ (HR.out.setRow (cs' := zero32)) Try.underlying24 rfl (by rw [hZs]; kernel_rfl)]) rfl ⟨by rw [HP.out]; rfl, Below.setRow HB.out (Nat.le_refl _) _⟩
end Go.Proofs.Ytigpccfglicjeaa
