/- The reference's sum, a number's bytes and a number out of them, over texts; parts as one text; the document's examples. -/
import Derived.Test.YteccdbkgeomjeaaFrD
namespace Go.Proofs.Yteccdbkgeomjeaa
open Go.RowKit

theorem str_at (z : List Int) (hy : Byt z) (j : Nat) (hj : j < z.length) (w : World) :
    (Instr.index 9 (.string (strOfNums z)) (.int .i64 j)).run Try.prog w = .ok (.int .u8 (z.getD j 0)) w := by
  have ⟨h0, h1⟩ := hy.getD j
  rw [run_index_string w _ _ _ _ Try.underlying9, dif_pos ⟨by omega, by rw [strOfNums_size]; omega⟩]
  refine congrArg (fun y => Result.ok (Value.int .u8 y) w) ?_
  have e : z.getD j 0 = z[j] := by rw [List.getD_eq_getElem?_getD, List.getElem?_eq_getElem hj]; rfl
  rw [e] at h0 h1 ⊢
  show (((z.map fun n => UInt8.ofNat n.toNat).toArray[j]'(by simpa using hj)).toNat : Int) = z[j]
  simp only [List.getElem_toArray, List.getElem_map, UInt8.toNat_ofNat']
  omega

set_option maxHeartbeats 4000000 in
theorem refSum_any (z : List Int) (hy : Byt z) (hl : z.length ≤ 100000) (w : World) :
    Calls Try.prog 13 #[.string (strOfNums z)] w fun e w' => e = .returned (.int .u32 (sumN z : Nat)) ∧ w = w' := by
  obtain ⟨S, hS⟩ : ∃ S, S = strOfNums z := ⟨_, rfl⟩
  have hsz : S.size = z.length := by rw [hS]; exact strOfNums_size z
  have HAT : Hid (∀ j, j < z.length → ∀ w, (Instr.index 9 (.string S) (.int .i64 j)).run Try.prog w = .ok (.int .u8 (z.getD j 0)) w) := by
    show ∀ _, _; intro j hj w; rw [hS]; exact str_at z hy j hj w
  rw [← hS]
  have HY := Lib.hid hy
  clear hS hy
  go_enter Try.func13, Try.ntmps13
  go_wp2
  go_loop [3, 4, 5, 6] (fun s3 s4 _ _ => ∃ i : Nat, i ≤ z.length ∧ s4 = .int .i64 i ∧ s3 = .int .u32 ((crcN 4294967295 (z.take i) : Nat) : Int)) (fun _ s4 _ _ => z.length - (intOf s4).toNat)
  case atStart => exact ⟨0, by omega, rfl, rfl⟩
  case round =>
    obtain ⟨i, hi, rfl, rfl⟩ := hrel
    by_cases hlt : i < z.length
    · have hcj : crcN 4294967295 (z.take i) < 4294967296 := crcN_lt (by omega) _ (HY.out.take i)
      have HFC : Hid (crcN 4294967295 (z.take (i + 1)) = m8 (crcN 4294967295 (z.take i) ^^^ (z.getD i 0).toNat)) := crcN_take 4294967295 z i hlt
      obtain ⟨x0, x1⟩ := HY.out.getD i
      have hat := HAT.out i hlt
      generalize crcN 4294967295 (z.take i) = c at *
      generalize z.getD i 0 = x at *
      obtain ⟨b, hb⟩ : ∃ b : Nat, x = b := ⟨x.toNat, by omega⟩
      subst hb
      rw [Int.toNat_natCast] at HFC
      have hxx := xor_u32 c b hcj (by omega)
      have hcx : c ^^^ b < 4294967296 := Nat.xor_lt_two_pow (n := 32) hcj (by omega)
      generalize c ^^^ b = n at *
      go_wp2
      go_loop [3, 5, 6] (fun s3 s5 _ => ∃ k : Nat, k ≤ 8 ∧ s5 = .int .i64 k ∧ s3 = .int .u32 (mv k n : Nat)) (fun _ s5 _ => 8 - (intOf s5).toNat)
      case atStart => exact ⟨0, by omega, rfl, rfl⟩
      case round =>
        obtain ⟨k, hk, rfl, rfl⟩ := hrel
        have hm := mv_lt hcx k
        have HN : Hid (mv (k + 1) n = m1 (mv k n)) := rfl
        by_cases hlt8 : k < 8
        · have li : (k : Int) < 8 := by omega
          generalize mv k n = m at *
          have hd : m / 2 < 4294967296 := by omega
          by_cases ho : m % 2 = 1
          · have ha : (m : Int) % 2 = 1 := by omega
            have HX : Hid (bits .xor .u32 ((m : Int) / 2) 2197175160 = ((m1 m : Nat) : Int)) := by
              show _ = _
              have := xor_poly (m / 2) hd
              unfold m1; rw [if_pos ho, ← this]; rfl
            clear ho hd hat hxx
            go_wp2
            go_round
            case rel => exact ⟨k + 1, by omega, by go_num, by rw [HN.out, ← HX.out]⟩
            case measure => simp [intOf]; omega
          · have ha : (m : Int) % 2 = 0 := by omega
            have HX : Hid ((m : Int) / 2 = ((m1 m : Nat) : Int)) := by
              show _ = _
              unfold m1; rw [if_neg ho]; rfl
            clear ho hd hat hxx
            go_wp2
            go_round
            case rel => exact ⟨k + 1, by omega, by go_num, by rw [HN.out, ← HX.out]⟩
            case measure => simp [intOf]; omega
        · obtain rfl : k = 8 := by omega
          have HM : Hid (m8 n = mv 8 n) := rfl
          go_wp2
          go_round
          case rel => exact ⟨i + 1, by omega, by go_num, by rw [HFC.out, HM.out]⟩
          case measure => simp [intOf]; omega
    · obtain rfl : i = z.length := by omega
      rw [List.take_of_length_le (Nat.le_refl _)]
      have hlt4 : crcN 4294967295 z < 4294967296 := crcN_lt (by omega) _ HY.out
      have HX : Hid (bits .xor .u32 ((crcN 4294967295 z : Nat) : Int) 4294967295 = ((sumN z : Nat) : Int)) := xor_all _ hlt4
      generalize crcN 4294967295 z = C at *
      go_wp2
      go_ret
      exact ⟨ret_int (HX.out), rfl⟩
end Go.Proofs.Yteccdbkgeomjeaa
