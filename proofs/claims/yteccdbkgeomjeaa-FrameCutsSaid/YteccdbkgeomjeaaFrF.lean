/- The reference's bytes of a number, a number of bytes, a frame's bytes; parts as one text. -/
import Derived.Test.YteccdbkgeomjeaaFrE
namespace Go.Proofs.Yteccdbkgeomjeaa
open Go.RowKit

theorem four_conv (w : World) (a b c d : Int) : (convert 30 9 (.slice (some ⟨w.heap.size, 0, none⟩) 4 4)).run Try.prog (w.alloc (.cells #[.int .u8 a, .int .u8 b, .int .u8 c, .int .u8 d] 5)) = .ok (.string (strOfNums [a, b, c, d])) (w.alloc (.cells #[.int .u8 a, .int .u8 b, .int .u8 c, .int .u8 d] 5)) :=
  run_string (p := [a, b, c, d]) (Or.inr ⟨w.heap.size, 0, 4, rfl, Nat.le_refl _, by show w.heap.size < (w.alloc _).heap.size; simp, (Blk.new w 5 ([a, b, c, d].map (Value.int .u8))).range 0 _ fun j v hv => by rw [Nat.zero_add]; exact hv⟩)
theorem one_conv (w : World) (a : Int) : (convert 30 9 (.slice (some ⟨w.heap.size, 0, none⟩) 1 1)).run Try.prog (w.alloc (.cells #[.int .u8 a] 5)) = .ok (.string (strOfNums [a])) (w.alloc (.cells #[.int .u8 a] 5)) :=
  run_string (p := [a]) (Or.inr ⟨w.heap.size, 0, 1, rfl, Nat.le_refl _, by show w.heap.size < (w.alloc _).heap.size; simp, (Blk.new w 5 ([a].map (Value.int .u8))).range 0 _ fun j v hv => by rw [Nat.zero_add]; exact hv⟩)
theorem ret_str {a b : ByteArray} (h : a = b) : Ending.returned (.string a) = .returned (.string b) := by rw [h]

set_option maxHeartbeats 1000000 in
theorem four_any (n : Nat) (hn : n < 4294967296) (w : World) :
    Calls Try.prog 25 #[.int .u32 (n : Int)] w fun e w' => e = .returned (.string (strOfNums (fourI n))) ∧ Below w.heap.size w w' := by
  have hcv := four_conv
  go_enter Try.func25, Try.ntmps25
  go_wp2
  go_ret
  refine ⟨ret_str (congrArg strOfNums ?_), (Below.refl _ _).alloc (Nat.le_refl _) _⟩
  unfold fourI
  rw [Int.emod_eq_of_lt (a := (n : Int) / 16777216) (by omega) (by omega)]

set_option maxHeartbeats 1000000 in
theorem number_any (z : List Int) (hy : Byt z) (hl : 4 ≤ z.length) (w : World) :
    Calls Try.prog 28 #[.string (strOfNums z)] w fun e w' => e = .returned (.int .i64 (numI z)) ∧ ∃ k, w' = w.drewN k := by
  have a0 : ∀ w, (Instr.index 9 (.string (strOfNums z)) (.int .i64 0)).run Try.prog w = .ok (.int .u8 (z.getD 0 0)) w := fun w => str_at z hy 0 (by omega) w
  have a1 : ∀ w, (Instr.index 9 (.string (strOfNums z)) (.int .i64 1)).run Try.prog w = .ok (.int .u8 (z.getD 1 0)) w := fun w => str_at z hy 1 (by omega) w
  have a2 : ∀ w, (Instr.index 9 (.string (strOfNums z)) (.int .i64 2)).run Try.prog w = .ok (.int .u8 (z.getD 2 0)) w := fun w => str_at z hy 2 (by omega) w
  have a3 : ∀ w, (Instr.index 9 (.string (strOfNums z)) (.int .i64 3)).run Try.prog w = .ok (.int .u8 (z.getD 3 0)) w := fun w => str_at z hy 3 (by omega) w
  have b0 := hy.getD 0
  have b1 := hy.getD 1
  have b2 := hy.getD 2
  have b3 := hy.getD 3
  have HN := Lib.hid (numI_is z)
  generalize z.getD 0 0 = x0 at *
  generalize z.getD 1 0 = x1 at *
  generalize z.getD 2 0 = x2 at *
  generalize z.getD 3 0 = x3 at *
  generalize strOfNums z = S at *
  clear hy hl
  have e1 : IntKind.i64.wrap (256 * x1) = 256 * x1 := IntWalk.i64_in _ (by omega)
  have e2 : IntKind.i64.wrap (65536 * x2) = 65536 * x2 := IntWalk.i64_in _ (by omega)
  have e3 : IntKind.i64.wrap (16777216 * x3) = 16777216 * x3 := IntWalk.i64_in _ (by omega)
  have f1 : IntKind.i64.wrap (x0 + 256 * x1) = x0 + 256 * x1 := IntWalk.i64_in _ (by omega)
  have f2 : IntKind.i64.wrap (x0 + 256 * x1 + 65536 * x2) = x0 + 256 * x1 + 65536 * x2 := IntWalk.i64_in _ (by omega)
  have f3 : IntKind.i64.wrap (x0 + 256 * x1 + 65536 * x2 + 16777216 * x3) = x0 + 256 * x1 + 65536 * x2 + 16777216 * x3 := IntWalk.i64_in _ (by omega)
  have g0 : IntKind.i64.wrap x0 = x0 := IntWalk.i64_in _ (by omega)
  have g1 : IntKind.i64.wrap x1 = x1 := IntWalk.i64_in _ (by omega)
  have g2 : IntKind.i64.wrap x2 = x2 := IntWalk.i64_in _ (by omega)
  have g3 : IntKind.i64.wrap x3 = x3 := IntWalk.i64_in _ (by omega)
  go_enter Try.func28, Try.ntmps28
  go_wp2
  go_quiet (fail)
  go_wp2
  go_ret
  exact ⟨ret_int (by rw [HN.out]; omega), _, rfl⟩

theorem run_stringE {w : World} {v : Value} {p : List Int} (h : BytesE w v p) : (convert 30 9 v).run Try.prog w = .ok (.string (strOfNums p)) w := by
  rcases h with h | ⟨a, cap, rfl, rfl⟩
  · exact run_string h
  · have hl : (loadCells a 0).run Try.prog w = .ok ([].map (Value.int .u8)).toArray w := by
      simpa using run_loadCells_list (P := Try.prog) w a [] (fun j v hj => by simp at hj)
    rw [run_convert_bytes_string w 30 9 5 _ 0 cap Try.underlying30 Try.underlying5 Try.underlying9, run_bytesToString w _ 0 cap [] hl, foldl_push_bytes]
    rfl

set_option maxHeartbeats 1000000 in
theorem refEncode_any (k : Int) (p : List Int) (w : World) (hk0 : 1 ≤ k) (hk9 : k ≤ 9) (hy : Byt p) (hl : p.length ≤ 8192) :
    Calls Try.prog 15 #[.int .i64 k, .string (strOfNums p)] w fun e w' => e = .returned (.tuple #[.string (strOfNums (frameI k p)), .int .i64 0]) ∧ Below w.heap.size w w' := by
  have HI : Hid (strOfNums [k] ++ strOfNums p = strOfNums (innerI k p)) := by show _ = _; rw [← strOfNums_append]; rfl
  have HIY : Hid (Byt (innerI k p)) := fun z hz => by
    rcases List.mem_cons.1 hz with rfl | hz
    · omega
    · exact hy z hz
  have HIL : Hid ((innerI k p).length = p.length + 1) := rfl
  have HF : Hid (strOfNums (frameI k p) = strOfNums (fourI p.length) ++ strOfNums (innerI k p) ++ strOfNums (fourI (sumN (innerI k p) : Nat))) := by show _ = _; unfold frameI; rw [strOfNums_append, strOfNums_append, ByteArray.append_assoc]
  obtain ⟨S, hS⟩ : ∃ S, S = strOfNums p := ⟨_, rfl⟩
  have hsz : S.size = p.length := by rw [hS]; exact strOfNums_size p
  obtain ⟨K, hK⟩ : ∃ K, K = strOfNums [k] := ⟨_, rfl⟩
  have hksz : K.size = 1 := by rw [hK]; exact strOfNums_size [k]
  have hcv : ∀ w : World, (convert 30 9 (.slice (some ⟨w.heap.size, 0, none⟩) 1 1)).run Try.prog (w.alloc (.cells #[.int .u8 k] 5)) = .ok (.string K) (w.alloc (.cells #[.int .u8 k] 5)) := fun w => by rw [hK]; exact one_conv w k
  rw [← hS, ← hK] at HI
  rw [← hS]
  have HS := Lib.hid hS
  have HK := Lib.hid hK
  clear hS hK hy
  generalize p.length = n at *
  have hno1 : ¬ 9223372036854775807 < 1 + n := by omega
  go_enter Try.func15, Try.ntmps15
  go_wp2_with fail
  refine (four_any _ (by omega) _).mono ?_; rintro e w1 ⟨rfl, hb1⟩
  have HB1 := Lib.hid hb1
  clear hb1
  obtain ⟨F, hF⟩ : ∃ F, F = strOfNums (fourI n) := ⟨_, rfl⟩
  have hfz : F.size = 4 := by rw [hF]; exact strOfNums_size _
  rw [← hF]
  have HFF := Lib.hid hF
  clear hF
  have hno2 : ¬ 9223372036854775807 < 4 + (1 + n) := by omega
  have CS := Lib.hid (fun w => refSum_any _ HIY.out (by rw [HIL.out]; omega) w)
  obtain ⟨I, hI⟩ : ∃ I, I = strOfNums (innerI k p) := ⟨_, rfl⟩
  have hiz : I.size = 1 + n := by rw [hI, strOfNums_size, HIL.out]; omega
  rw [← hI] at HI HF CS
  clear hI
  go_wp2_with fail
  rw [HI.out]
  refine (CS.out _).mono ?_; rintro e w2 ⟨rfl, rfl⟩
  have hs4 : sumN (innerI k p) < 4294967296 := sumN_lt HIY.out
  go_wp2_with fail
  refine (four_any _ hs4 _).mono ?_; rintro e w3 ⟨rfl, hb3⟩
  have HB3 := Lib.hid (HB1.out.trans (hb3.mono HB1.out.size))
  clear hb3
  obtain ⟨G, hG⟩ : ∃ G, G = strOfNums (fourI (sumN (innerI k p) : Nat)) := ⟨_, rfl⟩
  have hgz : G.size = 4 := by rw [hG]; exact strOfNums_size _
  rw [← hG]
  rw [← HFF.out, ← hG] at HF
  clear hG
  have hno3 : ¬ 9223372036854775807 < 4 + (1 + n) + 4 := by omega
  go_wp2_with fail
  go_ret2
  exact ⟨by rw [HF.out]; rfl, ((Below.refl _ _).alloc (Nat.le_refl _) _).trans (HB3.out.mono (by simp))⟩

theorem Parts.nil (w : World) : Parts w (.slice none 0 0) [] := .inl ⟨rfl, rfl⟩
/-- What 'joined' answers. -/
def joinR (most : Nat) (ps : List (List Int)) : Value := if ps.length ≤ 50 ∧ ps.flatten.length ≤ most then .tuple #[.string (strOfNums ps.flatten), .bool true] else .tuple #[.string ⟨#[]⟩, .bool false]

set_option maxHeartbeats 1000000 in
theorem joined_any (most : Nat) (hmost : most ≤ 100000) (v : Value) (ps : List (List Int)) (w : World) (hp : Parts w v ps) (hm : ps.length < 9223372036854775808)
    (hq : ∀ i, i < ps.length → (ps.getD i []).length < 9223372036854775808) :
    Calls Try.prog 10 #[v, .int .i64 most] w fun e w' => e = .returned (joinR most ps) ∧ w = w' := by
  obtain ⟨qa, cap, rfl, hpe⟩ := hp.open
  have HP := Lib.hid hpe
  have HQ := Lib.hid hq
  obtain ⟨R, hR⟩ : ∃ R, R = joinR most ps := ⟨_, rfl⟩
  rw [← hR]
  have HR := Lib.hid hR
  clear hpe hq hp hR
  go_enter Try.func10, Try.ntmps10
  by_cases h50 : 50 < ps.length
  · have HA : Hid (R = .tuple #[.string ⟨#[]⟩, .bool false]) := by show _ = _; rw [HR.out]; unfold joinR; rw [if_neg (by omega)]
    clear HR
    go_wp2
    go_ret2
    exact ⟨by rw [HA.out]; rfl, rfl⟩
  · have h50' : ps.length ≤ 50 := by omega
    go_wp2
    go_loop [6, 8, 14] (fun s6 _ s14 => ∃ (i : Nat) (S : ByteArray), i ≤ ps.length ∧ s14 = .int .i64 i ∧ s6 = .string S ∧ S = strOfNums (ps.take i).flatten ∧ ((ps.take i).flatten).length ≤ most) (fun _ _ s14 => ps.length - (intOf s14).toNat)
    case atStart => exact ⟨0, _, by omega, rfl, rfl, rfl, by simp⟩
    case round =>
      obtain ⟨i, S, hi, rfl, rfl, hS, hL⟩ := hrel
      by_cases hlt : i < ps.length
      · obtain ⟨qb, qo, u, rfl, hql, hcu, hbu⟩ := HP.out i hlt
        have hpl := HQ.out i hlt
        have HFT : Hid ((ps.take (i + 1)).flatten = (ps.take i).flatten ++ ps.getD i []) := flat_take_succ ps i hlt
        have hall := flat_take_le ps (i + 1)
        rw [HFT.out, List.length_append] at hall
        obtain ⟨ua, uc, rfl⟩ := hbu.slice
        have hcv : (convert 30 9 (.slice ua (ps.getD i []).length uc)).run Try.prog w = .ok (.string (strOfNums (ps.getD i []))) w := run_stringE hbu
        have hsz : S.size = ((ps.take i).flatten).length := by rw [hS, strOfNums_size]
        obtain ⟨T, hT⟩ : ∃ T, T = strOfNums (ps.getD i []) := ⟨_, rfl⟩
        have htz : T.size = (ps.getD i []).length := by rw [hT, strOfNums_size]
        rw [← hT] at hcv
        have HST : Hid (S ++ T = strOfNums (ps.take (i + 1)).flatten) := by show _ = _; rw [HFT.out, strOfNums_append, hS, hT]
        have HLN : Hid (((ps.take (i + 1)).flatten).length = ((ps.take i).flatten).length + (ps.getD i []).length) := by show _ = _; rw [HFT.out, List.length_append]
        clear hS hT HFT hbu
        generalize ((ps.take i).flatten).length = A at *
        generalize (ps.getD i []).length = B at *
        have hsub : IntKind.i64.wrap ((most : Int) - (A : Int)) = most - A := IntWalk.i64_in _ (by omega)
        by_cases hbig : (most : Int) - (A : Int) < B
        · have HA : Hid (R = .tuple #[.string ⟨#[]⟩, .bool false]) := by show _ = _; rw [HR.out]; unfold joinR; rw [if_neg (by omega)]
          clear HR hall
          go_wp2
          go_ret2
          exact ⟨by rw [HA.out]; rfl, rfl⟩
        · have hno : ¬ 9223372036854775807 < A + B := by omega
          clear hall
          go_wp2
          go_round
          case rel => exact ⟨i + 1, _, by omega, by go_num, rfl, HST.out, by rw [HLN.out]; omega⟩
          case measure => simp [intOf]; omega
      · obtain rfl : i = ps.length := by omega
        rw [List.take_of_length_le (Nat.le_refl _)] at hL hS
        have HA : Hid (R = .tuple #[.string S, .bool true]) := by show _ = _; rw [HR.out]; unfold joinR; rw [if_pos ⟨h50', hL⟩, hS]
        clear HR hS hL
        go_wp2
        go_ret2
        exact ⟨by rw [HA.out]; rfl, rfl⟩
end Go.Proofs.Yteccdbkgeomjeaa
