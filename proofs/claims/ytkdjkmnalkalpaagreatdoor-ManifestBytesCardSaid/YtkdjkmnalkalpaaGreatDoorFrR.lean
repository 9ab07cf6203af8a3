/- 'Encode' of parts that were laid just before; texts that differ. The reference's 'Decode'. A frame of which one byte is another one isn't read. Plain numbers. Rows of frames: what the front is; frames in memory. Package frame: 'Scan'. The reference's 'Scan'. Rows of frames, cut off anywhere. Plain numbers. -/
import Derived.Test.YtkdjkmnalkalpaaGreatDoorFrK
namespace Go.Proofs.YtkdjkmnalkalpaaGreatDoor.Fr
open Go.RowKit
set_option maxRecDepth 100000

theorem str_ne {a b : List Int} (ha : Byt a) (hb : Byt b) (h : a ≠ b) : ((strOfNums a).toList == (strOfNums b).toList) = false := by
  rw [beq_eq_false_iff_ne]
  intro e
  rw [ByteArray.toList_eq, ByteArray.toList_eq] at e
  apply h
  apply strOfNums_inj ha hb
  apply ByteArray.ext
  exact Array.toList_inj.1 e
end Go.Proofs.YtkdjkmnalkalpaaGreatDoor.Fr
namespace Go.Proofs.YtkdjkmnalkalpaaGreatDoor.Fr
open Go.RowKit
set_option maxRecDepth 100000

theorem str_cut (p : List Int) (i j : Nat) : (strOfNums p).extract i j = strOfNums ((p.drop i).take (j - i)) := by
  apply ByteArray.ext
  simp [strOfNums, List.map_take, List.map_drop, List.extract_eq_take_drop]
theorem str_slice (p : List Int) (i j : Nat) (h1 : i ≤ j) (h2 : j ≤ p.length) (w : World) :
    (Instr.slice 9 (.string (strOfNums p)) (some (.int .i64 i)) (some (.int .i64 j)) none).run Tryz.prog w = .ok (.string (strOfNums ((p.drop i).take (j - i)))) w := by
  rw [run_slice_string w 9 _ .i64 .i64 i j Tryz.underlying9 (by omega) (by omega) (by rw [strOfNums_size]; omega)]
  simp only [Int.toNat_natCast]
  rw [str_cut]
theorem str_from (p : List Int) (i : Nat) (h : i ≤ p.length) (w : World) :
    (Instr.slice 9 (.string (strOfNums p)) (some (.int .i64 i)) none none).run Tryz.prog w = .ok (.string (strOfNums (p.drop i))) w := by
  rw [run_slice_string_from_if w 9 _ .i64 i Tryz.underlying9, if_pos ⟨by omega, by rw [strOfNums_size]; omega⟩]
  simp only [Int.toNat_natCast]
  rw [str_cut, strOfNums_size, List.take_of_length_le (by rw [List.length_drop]; omega)]
theorem four_iff {q : List Int} (hy : Byt q) (hl : q.length = 4) (n : Nat) (hn : n < 4294967296) : fourI n = q ↔ (n : Int) = numI q := by
  constructor
  · intro h
    have := numI_four (n : Int) (by omega) (by omega) []
    rw [List.append_nil, h] at this
    exact this.symm
  · intro h
    match q, hl with
    | [a, b, c, d], _ =>
      have ha := hy a (by simp)
      have hb := hy b (by simp)
      have hc := hy c (by simp)
      have hd := hy d (by simp)
      rw [numI_is] at h
      simp only [List.getD_cons_zero, List.getD_cons_succ] at h
      unfold fourI
      rw [show (n : Int) % 256 = a by omega, show (n : Int) / 256 % 256 = b by omega, show (n : Int) / 65536 % 256 = c by omega, show (n : Int) / 16777216 % 256 = d by omega]

set_option maxRecDepth 100000 in
set_option maxHeartbeats 4000000 in
theorem refDecode_any (p : List Int) (w : World) (hy : Byt p) (hl : p.length ≤ 100000) :
    Calls Tryz.prog 96 #[.string (strOfNums p)] w fun e w' => e = .returned (.tuple #[.agg #[.int .i64 (decodeI p).1, .string (strOfNums (decodeI p).2.1)], .int .i64 (decodeI p).2.2]) ∧ Below w.heap.size w w' := by
  have hsz : (strOfNums p).size = p.length := strOfNums_size p
  have ⟨n0, n1⟩ := numI_bounds hy
  by_cases h9 : p.length < 9
  · have HD : Hid (decodeI p = (0, [], 2)) := by
      show _ = _; unfold decodeI sizeF; rw [if_neg (show ¬ (9 ≤ p.length ∧ numI p ≤ 8192 ∧ numI p + 9 ≤ p.length) by omega)]; simp
    rw [HD.out]
    have hl9 : (p.length : Int) < 9 := by omega
    generalize strOfNums p = S at *
    generalize p.length = n at *
    clear hy n0 n1 h9 HD hl
    go_enter Tryz.func96, Tryz.ntmps96
    go_wp2_with fail
    exact bodyPost_ret (v := .tuple #[.agg #[.int .i64 0, .string (strOfNums [])], .int .i64 2]) (by simp [results, Tryz.results96, go_sem]; rfl) rfl ⟨rfl, (Below.refl _ _).alloc (Nat.le_refl _) _⟩
  · have hl9 : ¬ (p.length : Int) < 9 := by omega
    have hsub : IntKind.i64.wrap ((p.length : Int) - 9) = p.length - 9 := IntWalk.i64_in _ (by omega)
    have CN := Lib.hid (fun w' => number_any p hy (by omega) w')
    have hkz : Blk (w.alloc (.cells #[.int .i64 0, .string ⟨#[]⟩] 169)) w.heap.size 169 [.int .i64 0, .string ⟨#[]⟩] := Blk.new w 169 [.int .i64 0, .string ⟨#[]⟩]
    have hBz : Below w.heap.size w (w.alloc (.cells #[.int .i64 0, .string ⟨#[]⟩] 169)) := (Below.refl _ _).alloc (Nat.le_refl _) _
    have HKZ := Lib.hid hkz
    have HBZ := Lib.hid hBz
    clear hkz hBz
    have HYP := Lib.hid hy
    by_cases hA : numI p = (p.length : Int) - 9
    · by_cases hB : 8192 < numI p
      · have HD : Hid (decodeI p = (0, [], 2)) := by
          show _ = _; unfold decodeI sizeF; rw [if_neg (show ¬ (9 ≤ p.length ∧ numI p ≤ 8192 ∧ numI p + 9 ≤ p.length) by omega)]; simp
        rw [HD.out]
        generalize strOfNums p = S at *
        generalize numI p = N at *
        have hAe : (N == (p.length : Int) - 9) = true := by simpa using hA
        generalize p.length = n at *
        subst hA
        clear HYP hy n0 n1 h9 HD hl
        go_enter Tryz.func96, Tryz.ntmps96
        go_wp2_with fail
        refine (CN.out _).mono ?_; rintro e w1 ⟨rfl, k1, hk1⟩
        have HK1 : Hid (Blk w1 w.heap.size 169 [.int .i64 0, .string ⟨#[]⟩]) := by rw [hk1]; exact HKZ.out.drewN _
        have HB1 : Hid (Below w.heap.size w w1) := by rw [hk1]; exact Below.drewN HBZ.out _
        clear hk1
        go_wp2_with fail
        refine (CN.out _).mono ?_; rintro e w2 ⟨rfl, k2, hk2⟩
        have HK2 : Hid (Blk w2 w.heap.size 169 [.int .i64 0, .string ⟨#[]⟩]) := by rw [hk2]; exact HK1.out.drewN _
        have HB2 : Hid (Below w.heap.size w w2) := by rw [hk2]; exact Below.drewN HB1.out _
        clear hk2
        have c0 := HK2.out.cell (i := 0) rfl
        have c1 := HK2.out.cell (i := 1) rfl
        have f0 := HK2.out.frozen 0
        have f1 := HK2.out.frozen 1
        go_wp2_with fail
        have hk3 := (HK2.out.set 0 (.int .i64 0)).set 1 (.string ⟨#[]⟩)
        have d0 := hk3.cell (i := 0) (v := .int .i64 0) rfl
        have d1 := hk3.cell (i := 1) (v := .string ⟨#[]⟩) rfl
        clear hk3 c0 c1 f0 f1
        exact bodyPost_ret (v := .tuple #[.agg #[.int .i64 0, .string ⟨#[]⟩], .int .i64 2]) (by simp [results, Tryz.results96, go_sem, d0, d1]) rfl ⟨rfl, (HB2.out.setCell (p := ⟨w.heap.size, 0, none⟩) (Nat.le_refl _) _).setCell (p := ⟨w.heap.size, 1, none⟩) (Nat.le_refl _) _⟩
      · have HD : Hid (decodeI p = decI p) := by
          show _ = _; unfold decodeI
          rw [if_pos]
          unfold sizeF
          rw [if_pos ⟨by omega, by omega, by omega⟩]
          exact ⟨rfl, by show numI p + 9 = _; omega⟩
        rw [HD.out]
        have HDI : Hid (decI p = if 1 ≤ p.getD 4 0 ∧ p.getD 4 0 ≤ 9 then if ((sumN ((p.drop 4).take (p.length - 8)) : Nat) : Int) = numI (p.drop (p.length - 4)) then (p.getD 4 0, (p.drop 5).take (p.length - 9), 0) else (0, [], 6) else (0, [], 1)) := rfl
        have hl8 : p.length ≤ 8201 := by omega
        have e4 : ((p.length - 4 : Nat) : Int) = (p.length : Int) - 4 := by omega
        have hat4 : ∀ w, (Instr.index 9 (.string (strOfNums p)) (.int .i64 4)).run Tryz.prog w = .ok (.int .u8 (p.getD 4 0)) w := fun w => str_at p hy 4 (by omega) w
        have hsl1 : ∀ w, (Instr.slice 9 (.string (strOfNums p)) (some (.int .i64 4)) (some (.int .i64 ((p.length : Int) - 4))) none).run Tryz.prog w = .ok (.string (strOfNums ((p.drop 4).take (p.length - 8)))) w := fun w => by
          rw [← e4, show p.length - 8 = p.length - 4 - 4 by omega]; exact str_slice p 4 (p.length - 4) (by omega) (by omega) w
        have hsl2 : ∀ w, (Instr.slice 9 (.string (strOfNums p)) (some (.int .i64 ((p.length : Int) - 4))) none none).run Tryz.prog w = .ok (.string (strOfNums (p.drop (p.length - 4)))) w := fun w => by
          rw [← e4]; exact str_from p (p.length - 4) (by omega) w
        have hsl3 : ∀ w, (Instr.slice 9 (.string (strOfNums p)) (some (.int .i64 5)) (some (.int .i64 ((p.length : Int) - 4))) none).run Tryz.prog w = .ok (.string (strOfNums ((p.drop 5).take (p.length - 9)))) w := fun w => by
          rw [← e4, show p.length - 9 = p.length - 4 - 5 by omega]; exact str_slice p 5 (p.length - 4) (by omega) (by omega) w
        have hsub4 : IntKind.i64.wrap ((p.length : Int) - 4) = p.length - 4 := IntWalk.i64_in _ (by omega)
        have hy1 : Byt ((p.drop 4).take (p.length - 8)) := (hy.drop 4).take _
        have hy2 : Byt (p.drop (p.length - 4)) := hy.drop _
        have hl2 : (p.drop (p.length - 4)).length = 4 := by rw [List.length_drop]; omega
        have hS := sumN_lt hy1
        have CS := Lib.hid (fun w' => refSum_any _ hy1 (by rw [List.length_take]; omega) w')
        have CF := Lib.hid (fun w' => four_any _ hS w')
        have hfi := four_iff hy2 hl2 _ hS
        have ⟨k0, k255⟩ := hy.getD 4
        have hAe : (numI p == (p.length : Int) - 9) = true := by simpa using hA
        have hBn : ¬ 8192 < numI p := hB
        have hfb := fourI_byt ((sumN ((p.drop 4).take (p.length - 8)) : Nat) : Int)
        have HNE := Lib.hid (fun (h : fourI ((sumN ((p.drop 4).take (p.length - 8)) : Nat) : Int) ≠ p.drop (p.length - 4)) => str_ne hfb hy2 h)
        have HFI := Lib.hid hfi
        clear hfi hfb hy1 hl2 hS hB e4
        generalize (p.drop 5).take (p.length - 9) = q3 at *
        generalize sumN ((p.drop 4).take (p.length - 8)) = SM at *
        generalize (p.drop 4).take (p.length - 8) = q1 at *
        generalize p.drop (p.length - 4) = q2 at *
        generalize p.getD 4 0 = k at *
        generalize decI p = r at *
        generalize numI p = N at *
        have HA := Lib.hid hA
        clear hA hy hy2
        generalize strOfNums p = S at *
        obtain ⟨F4, hF4⟩ : ∃ F4, F4 = strOfNums (fourI ((SM : Nat) : Int)) := ⟨_, rfl⟩
        rw [← hF4] at HNE CF
        have HF4 := Lib.hid hF4
        clear hF4
        have HN : Hid (N = (p.length : Int) - 9) := HA
        rw [HN.out] at CN hAe hBn
        clear HN HA
        by_cases hk1 : k < 1
        · rw [if_neg (show ¬ (1 ≤ k ∧ k ≤ 9) by omega)] at HDI
          go_enter Tryz.func96, Tryz.ntmps96
          go_wp2_with fail
          refine (CN.out _).mono ?_; rintro e w1 ⟨rfl, n1, hn1⟩
          have HK1 : Hid (Blk w1 w.heap.size 169 [.int .i64 0, .string ⟨#[]⟩]) := by rw [hn1]; exact HKZ.out.drewN _
          have HB1 : Hid (Below w.heap.size w w1) := by rw [hn1]; exact Below.drewN HBZ.out _
          clear hn1
          go_wp2_with fail
          refine (CN.out _).mono ?_; rintro e w2 ⟨rfl, n2, hn2⟩
          have HK2 : Hid (Blk w2 w.heap.size 169 [.int .i64 0, .string ⟨#[]⟩]) := by rw [hn2]; exact HK1.out.drewN _
          have HB2 : Hid (Below w.heap.size w w2) := by rw [hn2]; exact Below.drewN HB1.out _
          clear hn2
          have c0 := HK2.out.cell (i := 0) rfl
          have c1 := HK2.out.cell (i := 1) rfl
          have f0 := HK2.out.frozen 0
          have f1 := HK2.out.frozen 1
          go_wp2_with fail
          have hk3 := (HK2.out.set 0 (.int .i64 0)).set 1 (.string ⟨#[]⟩)
          have d0 := hk3.cell (i := 0) (v := .int .i64 0) rfl
          have d1 := hk3.cell (i := 1) (v := .string ⟨#[]⟩) rfl
          clear hk3 c0 c1 f0 f1
          exact bodyPost_ret (v := .tuple #[.agg #[.int .i64 0, .string ⟨#[]⟩], .int .i64 1]) (by simp [results, Tryz.results96, go_sem, d0, d1]) rfl ⟨by rw [HDI.out]; rfl, (HB2.out.setCell (p := ⟨w.heap.size, 0, none⟩) (Nat.le_refl _) _).setCell (p := ⟨w.heap.size, 1, none⟩) (Nat.le_refl _) _⟩
        by_cases hk9 : 9 < k
        · rw [if_neg (show ¬ (1 ≤ k ∧ k ≤ 9) by omega)] at HDI
          have hk1' : ¬ k < 1 := hk1
          go_enter Tryz.func96, Tryz.ntmps96
          go_wp2_with fail
          refine (CN.out _).mono ?_; rintro e w1 ⟨rfl, n1, hn1⟩
          have HK1 : Hid (Blk w1 w.heap.size 169 [.int .i64 0, .string ⟨#[]⟩]) := by rw [hn1]; exact HKZ.out.drewN _
          have HB1 : Hid (Below w.heap.size w w1) := by rw [hn1]; exact Below.drewN HBZ.out _
          clear hn1
          go_wp2_with fail
          refine (CN.out _).mono ?_; rintro e w2 ⟨rfl, n2, hn2⟩
          have HK2 : Hid (Blk w2 w.heap.size 169 [.int .i64 0, .string ⟨#[]⟩]) := by rw [hn2]; exact HK1.out.drewN _
          have HB2 : Hid (Below w.heap.size w w2) := by rw [hn2]; exact Below.drewN HB1.out _
          clear hn2
          have c0 := HK2.out.cell (i := 0) rfl
          have c1 := HK2.out.cell (i := 1) rfl
          have f0 := HK2.out.frozen 0
          have f1 := HK2.out.frozen 1
          go_wp2_with fail
          have hk3 := (HK2.out.set 0 (.int .i64 0)).set 1 (.string ⟨#[]⟩)
          have d0 := hk3.cell (i := 0) (v := .int .i64 0) rfl
          have d1 := hk3.cell (i := 1) (v := .string ⟨#[]⟩) rfl
          clear hk3 c0 c1 f0 f1
          exact bodyPost_ret (v := .tuple #[.agg #[.int .i64 0, .string ⟨#[]⟩], .int .i64 1]) (by simp [results, Tryz.results96, go_sem, d0, d1]) rfl ⟨by rw [HDI.out]; rfl, (HB2.out.setCell (p := ⟨w.heap.size, 0, none⟩) (Nat.le_refl _) _).setCell (p := ⟨w.heap.size, 1, none⟩) (Nat.le_refl _) _⟩
        · rw [if_pos (show 1 ≤ k ∧ k ≤ 9 by omega)] at HDI
          go_enter Tryz.func96, Tryz.ntmps96
          go_wp2_with fail
          refine (CN.out _).mono ?_; rintro e w1 ⟨rfl, n1, hn1⟩
          have HK1 : Hid (Blk w1 w.heap.size 169 [.int .i64 0, .string ⟨#[]⟩]) := by rw [hn1]; exact HKZ.out.drewN _
          have HB1 : Hid (Below w.heap.size w w1) := by rw [hn1]; exact Below.drewN HBZ.out _
          clear hn1
          go_wp2_with fail
          refine (CN.out _).mono ?_; rintro e w2 ⟨rfl, n2, hn2⟩
          have HK2 : Hid (Blk w2 w.heap.size 169 [.int .i64 0, .string ⟨#[]⟩]) := by rw [hn2]; exact HK1.out.drewN _
          have HB2 : Hid (Below w.heap.size w w2) := by rw [hn2]; exact Below.drewN HB1.out _
          clear hn2
          go_upto_region 5 with fail
          have hB2d : Below w.heap.size w w2.drew := HB2.out.drew
          go_region_held_law (fun _ => True) (trivial) (first | (go_simp; go_at_call 157; refine (CS.out _).mono ?_; rintro e w' ⟨rfl, rfl⟩) | (go_simp; go_at_call 156; refine (CF.out _).mono ?_; rintro e w3 ⟨rfl, hb3⟩))
          have HK3 : Hid (Blk w3 w.heap.size 169 [.int .i64 0, .string ⟨#[]⟩]) := Below.blk hb3 HK2.out.drew.lt HK2.out.drew
          have HB3 : Hid (Below w.heap.size w w3) := hB2d.trans (hb3.mono hB2d.size)
          have c0 := HK3.out.cell (i := 0) rfl
          have c1 := HK3.out.cell (i := 1) rfl
          have f0 := HK3.out.frozen 0
          have f1 := HK3.out.frozen 1
          clear hb3 hB2d HK2 HB2 HK1 HB1 hsl1 hsl2
          by_cases hs : (SM : Int) = numI q2
          · rw [if_pos hs] at HDI
            have hq : strOfNums q2 = F4 := by rw [HF4.out, HFI.out.2 hs]
            rw [hq]
            simp only [beq_self_eq_true, Bool.not_true]
            clear hq hs HNE
            go_upto_region 7 with fail
            have hwk : IntKind.i64.wrap k = k := IntWalk.i64_in _ (by omega)
            go_region_held_law (fun _ => True) (trivial) (fail)
            have hk3 := ((HK3.out.set 0 (.int .i64 k)).set 1 (.string (strOfNums q3))).drew
            have d0 := hk3.cell (i := 0) (v := .int .i64 k) rfl
            have d1 := hk3.cell (i := 1) (v := .string (strOfNums q3)) rfl
            clear hk3 c0 c1 f0 f1
            go_wp2_with fail
            exact bodyPost_ret (v := .tuple #[.agg #[.int .i64 k, .string (strOfNums q3)], .int .i64 0]) (by simp [results, Tryz.results96, go_sem, d0, d1]) rfl ⟨by rw [HDI.out], ((HB3.out.setCell (p := ⟨w.heap.size, 0, none⟩) (Nat.le_refl _) _).setCell (p := ⟨w.heap.size, 1, none⟩) (Nat.le_refl _) _).drew⟩
          · rw [if_neg hs] at HDI
            have hne := HNE.out (fun h => hs (HFI.out.1 h))
            simp only [hne, Bool.not_false]
            clear hs HNE hne
            go_wp2_with fail
            have hk3 := (HK3.out.set 0 (.int .i64 0)).set 1 (.string ⟨#[]⟩)
            have d0 := hk3.cell (i := 0) (v := .int .i64 0) rfl
            have d1 := hk3.cell (i := 1) (v := .string ⟨#[]⟩) rfl
            clear hk3 c0 c1 f0 f1
            exact bodyPost_ret (v := .tuple #[.agg #[.int .i64 0, .string ⟨#[]⟩], .int .i64 6]) (by simp [results, Tryz.results96, go_sem, d0, d1]) rfl ⟨by rw [HDI.out]; rfl, (HB3.out.setCell (p := ⟨w.heap.size, 0, none⟩) (Nat.le_refl _) _).setCell (p := ⟨w.heap.size, 1, none⟩) (Nat.le_refl _) _⟩
    · have HD : Hid (decodeI p = (0, [], 2)) := by
        show _ = _; unfold decodeI
        rw [if_neg]
        unfold sizeF
        rintro ⟨h2, h1⟩
        split at h2
        · rename_i hh
          rw [if_pos hh] at h1
          have : numI p + 9 = p.length := h1
          omega
        · cases h2
      rw [HD.out]
      have hAe : (numI p == (p.length : Int) - 9) = false := by simpa using hA
      have hAn : (numI p != (p.length : Int) - 9) = true := by simpa using hA
      generalize strOfNums p = S at *
      generalize numI p = N at *
      generalize p.length = n at *
      clear HYP hy n0 n1 h9 HD hl hA
      go_enter Tryz.func96, Tryz.ntmps96
      go_wp2_with fail
      refine (CN.out _).mono ?_; rintro e w1 ⟨rfl, k1, hk1⟩
      have HK2 : Hid (Blk w1 w.heap.size 169 [.int .i64 0, .string ⟨#[]⟩]) := by rw [hk1]; exact HKZ.out.drewN _
      have HB2 : Hid (Below w.heap.size w w1) := by rw [hk1]; exact Below.drewN HBZ.out _
      clear hk1
      have c0 := HK2.out.cell (i := 0) rfl
      have c1 := HK2.out.cell (i := 1) rfl
      have f0 := HK2.out.frozen 0
      have f1 := HK2.out.frozen 1
      go_wp2_with fail
      have hk3 := (HK2.out.set 0 (.int .i64 0)).set 1 (.string ⟨#[]⟩)
      have d0 := hk3.cell (i := 0) (v := .int .i64 0) rfl
      have d1 := hk3.cell (i := 1) (v := .string ⟨#[]⟩) rfl
      clear hk3 c0 c1 f0 f1
      exact bodyPost_ret (v := .tuple #[.agg #[.int .i64 0, .string ⟨#[]⟩], .int .i64 2]) (by simp [results, Tryz.results96, go_sem, d0, d1]) rfl ⟨rfl, (HB2.out.setCell (p := ⟨w.heap.size, 0, none⟩) (Nat.le_refl _) _).setCell (p := ⟨w.heap.size, 1, none⟩) (Nat.le_refl _) _⟩
end Go.Proofs.YtkdjkmnalkalpaaGreatDoor.Fr
namespace Go.Proofs.YtkdjkmnalkalpaaGreatDoor.Fr
open Go.RowKit
set_option maxRecDepth 100000

end Go.Proofs.YtkdjkmnalkalpaaGreatDoor.Fr
namespace Go.Proofs.YtkdjkmnalkalpaaGreatDoor.Fr
open Go.RowKit
set_option maxRecDepth 100000

def cellsF (xs : List (Int × List Int × Value)) : List Value := xs.flatMap fun t => [.int .i64 t.1, t.2.2]
structure Frs (w : World) (base : Nat) (v : Value) (xs : List (Int × List Int × Value)) : Prop where
  own : w.ownsRow base 161 2 v xs.length (cellsF xs)
  pay : ∀ t ∈ xs, OwnB w base t.2.2 t.2.1
end Go.Proofs.YtkdjkmnalkalpaaGreatDoor.Fr
namespace Go.Proofs.YtkdjkmnalkalpaaGreatDoor.Fr
open Go.RowKit
set_option maxRecDepth 100000

theorem Frs.slice {w : World} {base : Nat} {v : Value} {xs : List (Int × List Int × Value)} (h : Frs w base v xs) : ∃ a c, v = .slice a xs.length c := by
  rcases h.own.2 with ⟨rfl, h0⟩ | ⟨g, cap, cur, rfl, _⟩
  · exact ⟨none, 0, by rw [h0]⟩
  · exact ⟨_, _, rfl⟩
theorem Frs.mono {w : World} {base base' : Nat} {v : Value} {xs : List (Int × List Int × Value)} (h : Frs w base v xs) (hb : base' ≤ base) : Frs w base' v xs := by
  refine ⟨⟨h.own.1, ?_⟩, fun t ht => (h.pay t ht).mono hb⟩
  rcases h.own.2 with h1 | ⟨g, cap, cur, h1, h2, h3, h4⟩
  · exact .inl h1
  · exact .inr ⟨g, cap, cur, h1, Nat.le_trans hb h2, h3, h4⟩
end Go.Proofs.YtkdjkmnalkalpaaGreatDoor.Fr
namespace Go.Proofs.YtkdjkmnalkalpaaGreatDoor.Fr
open Go.RowKit
set_option maxRecDepth 100000

theorem ownsRow_keep {w w' : World} {base : Nat} {e : TypeId} {size n : Nat} {v : Value} {xs : List Value} (h : w.ownsRow base e size v n xs) (hb : Below w.heap.size w w') : w'.ownsRow base e size v n xs := by
  refine ⟨h.1, ?_⟩
  rcases h.2 with h1 | ⟨g, cap, cur, h1, h2, h3, h4⟩
  · exact .inl h1
  · refine .inr ⟨g, cap, cur, h1, h2, ?_, h4⟩
    rw [hb.block g ?_]
    · exact h3
    · by_cases k : g < w.heap.size
      · exact k
      · rw [Array.getElem?_eq_none (by omega)] at h3; cases h3
end Go.Proofs.YtkdjkmnalkalpaaGreatDoor.Fr
namespace Go.Proofs.YtkdjkmnalkalpaaGreatDoor.Fr
open Go.RowKit
set_option maxRecDepth 100000

end Go.Proofs.YtkdjkmnalkalpaaGreatDoor.Fr
