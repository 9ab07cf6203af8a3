/- 'Encode' of parts that were laid just before; texts that differ. The reference's 'Decode'. A frame of which one byte is another one isn't read. Plain numbers. Rows of frames: what the front is; frames in memory. Package frame: 'Scan'. The reference's 'Scan'. Rows of frames, cut off anywhere. Plain numbers. -/
import Derived.Test.YtigbgajelkknbaaGreatDoorFrK
namespace Go.Proofs.YtigbgajelkknbaaGreatDoor.Fr
open Go.RowKit
set_option maxRecDepth 100000

theorem str_ne {a b : List Int} (ha : Byt a) (hb : Byt b) (h : a ≠ b) : ((strOfNums a).toList == (strOfNums b).toList) = false := by
  rw [beq_eq_false_iff_ne]
  intro e
  rw [ByteArray.toList_eq, ByteArray.toList_eq] at e
  apply h
  apply strOfNums_inj ha hb
  apply ByteArray.ext
  exact Array.toList_inj.1 e
/-- Two frames differ, if their kinds or payloads do. -/
theorem frame_ne {k k' : Int} {p q : List Int} (h0 : 1 ≤ k) (h1 : k ≤ 9) (h2 : 1 ≤ k') (h3 : k' ≤ 9) (hp : Byt p) (hq : Byt q) (lp : p.length ≤ 8192) (lq : q.length ≤ 8192) (h : k ≠ k' ∨ p ≠ q) : frameI k p ≠ frameI k' q := by
  intro e
  have a := decodeI_frame h0 h1 hp lp
  have b := decodeI_frame h2 h3 hq lq
  rw [e, b] at a
  injection a with a1 a2
  injection a2 with a2 a3
  rcases h with h | h
  · exact h a1.symm
  · exact h a2.symm
theorem enc_one (k : Int) {v : Value} {p : List Int} {w0 : World} (wx : World) (h0 : 1 ≤ k) (h1 : k ≤ 9) (hb : BytesE w0 v p) (hy : Byt p) (hl : p.length ≤ 8192) (hbw : Below w0.heap.size w0 wx) :
    Calls Tryz.prog 63 #[.int .i64 k, .slice (some ⟨wx.heap.size, 0, none⟩) 1 1] (wx.alloc (.cells #[v] 37)) fun e w' => ∃ v', e = .returned (.tuple #[v', .int .i64 0]) ∧ OwnB w' wx.heap.size v' (frameI k p) ∧ Below wx.heap.size wx w' := by
  have hk : Blk (wx.alloc (.cells #[v] 37)) wx.heap.size 37 [v] := Blk.new wx 37 [v]
  have hB : Below wx.heap.size wx (wx.alloc (.cells #[v] 37)) := (Below.refl _ _).alloc (Nat.le_refl _) _
  have hB0 : Below w0.heap.size w0 (wx.alloc (.cells #[v] 37)) := hbw.trans (hB.mono hbw.size)
  have := encode_any k (.slice (some ⟨wx.heap.size, 0, none⟩) 1 1) [p] (wx.alloc (.cells #[v] 37)) h0 h1 (.inr ⟨wx.heap.size, 0, 1, rfl, hk.lt, fun i hi => by
    have : i = 0 := by simpa using hi
    subst this
    exact ⟨_, hk.cell rfl, hb.below hB0⟩⟩) (by simp) (fun i hi => by
    have : i = 0 := by simpa using hi
    subst this
    exact ⟨by show p.length < _; omega, hy⟩) (by simpa using hl)
  rw [show [p].flatten = p by simp] at this
  exact this.mono fun e w' ⟨v', he, ho, hb'⟩ => ⟨v', he, ho.mono hB.size, hB.trans (hb'.mono hB.size)⟩
theorem enc_three (k : Int) {v1 v2 v3 : Value} {p1 p2 p3 : List Int} {w0 : World} (wx : World) (h0 : 1 ≤ k) (h1 : k ≤ 9) (hb1 : BytesE w0 v1 p1) (hb2 : BytesE w0 v2 p2) (hb3 : BytesE w0 v3 p3) (hy1 : Byt p1) (hy2 : Byt p2) (hy3 : Byt p3) (hl : p1.length + p2.length + p3.length ≤ 8192) (hbw : Below w0.heap.size w0 wx) :
    Calls Tryz.prog 63 #[.int .i64 k, .slice (some ⟨wx.heap.size, 0, none⟩) 3 3] (wx.alloc (.cells #[v1, v2, v3] 37)) fun e w' => ∃ v', e = .returned (.tuple #[v', .int .i64 0]) ∧ OwnB w' wx.heap.size v' (frameI k (p1 ++ p2 ++ p3)) ∧ Below wx.heap.size wx w' := by
  have hk : Blk (wx.alloc (.cells #[v1, v2, v3] 37)) wx.heap.size 37 [v1, v2, v3] := Blk.new wx 37 [v1, v2, v3]
  have hB : Below wx.heap.size wx (wx.alloc (.cells #[v1, v2, v3] 37)) := (Below.refl _ _).alloc (Nat.le_refl _) _
  have hB0 : Below w0.heap.size w0 (wx.alloc (.cells #[v1, v2, v3] 37)) := hbw.trans (hB.mono hbw.size)
  have three : ∀ i, i < 3 → i = 0 ∨ i = 1 ∨ i = 2 := by omega
  have := encode_any k (.slice (some ⟨wx.heap.size, 0, none⟩) 3 3) [p1, p2, p3] (wx.alloc (.cells #[v1, v2, v3] 37)) h0 h1 (.inr ⟨wx.heap.size, 0, 3, rfl, hk.lt, fun i hi => by
    rcases three i hi with rfl | rfl | rfl
    · exact ⟨_, hk.cell (i := 0) rfl, hb1.below hB0⟩
    · exact ⟨_, hk.cell (i := 1) rfl, hb2.below hB0⟩
    · exact ⟨_, hk.cell (i := 2) rfl, hb3.below hB0⟩⟩) (by simp) (fun i hi => by
    rcases three i hi with rfl | rfl | rfl
    · exact ⟨by show p1.length < _; omega, hy1⟩
    · exact ⟨by show p2.length < _; omega, hy2⟩
    · exact ⟨by show p3.length < _; omega, hy3⟩) (by simp; omega)
  rw [show [p1, p2, p3].flatten = p1 ++ p2 ++ p3 by simp] at this
  exact this.mono fun e w' ⟨v', he, ho, hb'⟩ => ⟨v', he, ho.mono hB.size, hB.trans (hb'.mono hB.size)⟩
/-- A number turned into a kind. -/
theorem kind_of (x : Int) : ∃ q : Int, IntKind.u64.wrap x % 9 = q ∧ 0 ≤ q ∧ q < 9 := ⟨_, rfl, Int.emod_nonneg _ (by omega), Int.emod_lt_of_pos _ (by omega)⟩
theorem u64_nonneg (x : Int) : 0 ≤ IntKind.u64.wrap x := by rw [IntKind.wrap_u64]; omega
theorem two_of : ∀ zs : List Int, zs.length = 2 → ∃ x y, zs = [x, y]
  | [x, y], _ => ⟨x, y, rfl⟩
end Go.Proofs.YtigbgajelkknbaaGreatDoor.Fr
namespace Go.Proofs.YtigbgajelkknbaaGreatDoor.Fr
open Go.RowKit
set_option maxRecDepth 100000

theorem str_cut (p : List Int) (i j : Nat) : (strOfNums p).extract i j = strOfNums ((p.drop i).take (j - i)) := by
  apply ByteArray.ext
  simp [strOfNums, List.map_take, List.map_drop, List.extract_eq_take_drop]
theorem str_slice (p : List Int) (i j : Nat) (h1 : i ≤ j) (h2 : j ≤ p.length) (w : World) :
    (Instr.slice 9 (.string (strOfNums p)) (some (.int .i64 i)) (some (.int .i64 j)) none).run Tryz.prog w = .ok (.string (strOfNums ((p.drop i).take (j - i)))) w := by
  rw [run_slice_string w 9 _ .i64 .i64 i j Tryz.underlying9 (by omega) (by omega) (by rw [strOfNums_size]; omega)]
  simp only [Int.toNat_natCast]
  rw [str_cut]
theorem str_from (p : List Int) (i : Nat) (h : i ≤ p.length) (w : World) :
    (Instr.slice 9 (.string (strOfNums p)) (some (.int .i64 i)) none none).run Tryz.prog w = .ok (.string (strOfNums (p.drop i))) w := by
  rw [run_slice_string_from_if w 9 _ .i64 i Tryz.underlying9, if_pos ⟨by omega, by rw [strOfNums_size]; omega⟩]
  simp only [Int.toNat_natCast]
  rw [str_cut, strOfNums_size, List.take_of_length_le (by rw [List.length_drop]; omega)]
/-- Four bytes are a number's, if they make it. -/
theorem four_iff {q : List Int} (hy : Byt q) (hl : q.length = 4) (n : Nat) (hn : n < 4294967296) : fourI n = q ↔ (n : Int) = numI q := by
  constructor
  · intro h
    have := numI_four (n : Int) (by omega) (by omega) []
    rw [List.append_nil, h] at this
    exact this.symm
  · intro h
    match q, hl with
    | [a, b, c, d], _ =>
      have ha := hy a (by simp)
      have hb := hy b (by simp)
      have hc := hy c (by simp)
      have hd := hy d (by simp)
      rw [numI_is] at h
      simp only [List.getD_cons_zero, List.getD_cons_succ] at h
      unfold fourI
      rw [show (n : Int) % 256 = a by omega, show (n : Int) / 256 % 256 = b by omega, show (n : Int) / 65536 % 256 = c by omega, show (n : Int) / 16777216 % 256 = d by omega]

set_option maxRecDepth 100000 in
set_option maxHeartbeats 4000000 in
theorem refDecode_any (p : List Int) (w : World) (hy : Byt p) (hl : p.length ≤ 100000) :
    Calls Tryz.prog 89 #[.string (strOfNums p)] w fun e w' => e = .returned (.tuple #[.agg #[.int .i64 (decodeI p).1, .string (strOfNums (decodeI p).2.1)], .int .i64 (decodeI p).2.2]) ∧ Below w.heap.size w w' := by
  have hsz : (strOfNums p).size = p.length := strOfNums_size p
  have ⟨n0, n1⟩ := numI_bounds hy
  by_cases h9 : p.length < 9
  · have HD : Hid (decodeI p = (0, [], 2)) := by
      show _ = _; unfold decodeI sizeF; rw [if_neg (show ¬ (9 ≤ p.length ∧ numI p ≤ 8192 ∧ numI p + 9 ≤ p.length) by omega)]; simp
    rw [HD.out]
    have hl9 : (p.length : Int) < 9 := by omega
    generalize strOfNums p = S at *
    generalize p.length = n at *
    clear hy n0 n1 h9 HD hl
    go_enter Tryz.func89, Tryz.ntmps89
    go_wp2_with fail
    exact bodyPost_ret (v := .tuple #[.agg #[.int .i64 0, .string (strOfNums [])], .int .i64 2]) (by simp [results, Tryz.results89, go_sem]; rfl) rfl ⟨rfl, (Below.refl _ _).alloc (Nat.le_refl _) _⟩
  · have hl9 : ¬ (p.length : Int) < 9 := by omega
    have hsub : IntKind.i64.wrap ((p.length : Int) - 9) = p.length - 9 := IntWalk.i64_in _ (by omega)
    have CN := Lib.hid (fun w' => number_any p hy (by omega) w')
    have hkz : Blk (w.alloc (.cells #[.int .i64 0, .string ⟨#[]⟩] 147)) w.heap.size 147 [.int .i64 0, .string ⟨#[]⟩] := Blk.new w 147 [.int .i64 0, .string ⟨#[]⟩]
    have hBz : Below w.heap.size w (w.alloc (.cells #[.int .i64 0, .string ⟨#[]⟩] 147)) := (Below.refl _ _).alloc (Nat.le_refl _) _
    have HKZ := Lib.hid hkz
    have HBZ := Lib.hid hBz
    clear hkz hBz
    have HYP := Lib.hid hy
    by_cases hA : numI p = (p.length : Int) - 9
    · by_cases hB : 8192 < numI p
      · have HD : Hid (decodeI p = (0, [], 2)) := by
          show _ = _; unfold decodeI sizeF; rw [if_neg (show ¬ (9 ≤ p.length ∧ numI p ≤ 8192 ∧ numI p + 9 ≤ p.length) by omega)]; simp
        rw [HD.out]
        generalize strOfNums p = S at *
        generalize numI p = N at *
        have hAe : (N == (p.length : Int) - 9) = true := by simpa using hA
        generalize p.length = n at *
        subst hA
        clear HYP hy n0 n1 h9 HD hl
        go_enter Tryz.func89, Tryz.ntmps89
        go_wp2_with fail
        refine (CN.out _).mono ?_; rintro e w1 ⟨rfl, k1, hk1⟩
        have HK1 : Hid (Blk w1 w.heap.size 147 [.int .i64 0, .string ⟨#[]⟩]) := by rw [hk1]; exact HKZ.out.drewN _
        have HB1 : Hid (Below w.heap.size w w1) := by rw [hk1]; exact Below.drewN HBZ.out _
        clear hk1
        go_wp2_with fail
        refine (CN.out _).mono ?_; rintro e w2 ⟨rfl, k2, hk2⟩
        have HK2 : Hid (Blk w2 w.heap.size 147 [.int .i64 0, .string ⟨#[]⟩]) := by rw [hk2]; exact HK1.out.drewN _
        have HB2 : Hid (Below w.heap.size w w2) := by rw [hk2]; exact Below.drewN HB1.out _
        clear hk2
        have c0 := HK2.out.cell (i := 0) rfl
        have c1 := HK2.out.cell (i := 1) rfl
        have f0 := HK2.out.frozen 0
        have f1 := HK2.out.frozen 1
        go_wp2_with fail
        have hk3 := (HK2.out.set 0 (.int .i64 0)).set 1 (.string ⟨#[]⟩)
        have d0 := hk3.cell (i := 0) (v := .int .i64 0) rfl
        have d1 := hk3.cell (i := 1) (v := .string ⟨#[]⟩) rfl
        clear hk3 c0 c1 f0 f1
        exact bodyPost_ret (v := .tuple #[.agg #[.int .i64 0, .string ⟨#[]⟩], .int .i64 2]) (by simp [results, Tryz.results89, go_sem, d0, d1]) rfl ⟨rfl, (HB2.out.setCell (p := ⟨w.heap.size, 0, none⟩) (Nat.le_refl _) _).setCell (p := ⟨w.heap.size, 1, none⟩) (Nat.le_refl _) _⟩
      · have HD : Hid (decodeI p = decI p) := by
          show _ = _; unfold decodeI
          rw [if_pos]
          unfold sizeF
          rw [if_pos ⟨by omega, by omega, by omega⟩]
          exact ⟨rfl, by show numI p + 9 = _; omega⟩
        rw [HD.out]
        have HDI : Hid (decI p = if 1 ≤ p.getD 4 0 ∧ p.getD 4 0 ≤ 9 then if ((sumN ((p.drop 4).take (p.length - 8)) : Nat) : Int) = numI (p.drop (p.length - 4)) then (p.getD 4 0, (p.drop 5).take (p.length - 9), 0) else (0, [], 6) else (0, [], 1)) := rfl
        have hl8 : p.length ≤ 8201 := by omega
        have e4 : ((p.length - 4 : Nat) : Int) = (p.length : Int) - 4 := by omega
        have hat4 : ∀ w, (Instr.index 9 (.string (strOfNums p)) (.int .i64 4)).run Tryz.prog w = .ok (.int .u8 (p.getD 4 0)) w := fun w => str_at p hy 4 (by omega) w
        have hsl1 : ∀ w, (Instr.slice 9 (.string (strOfNums p)) (some (.int .i64 4)) (some (.int .i64 ((p.length : Int) - 4))) none).run Tryz.prog w = .ok (.string (strOfNums ((p.drop 4).take (p.length - 8)))) w := fun w => by
          rw [← e4, show p.length - 8 = p.length - 4 - 4 by omega]; exact str_slice p 4 (p.length - 4) (by omega) (by omega) w
        have hsl2 : ∀ w, (Instr.slice 9 (.string (strOfNums p)) (some (.int .i64 ((p.length : Int) - 4))) none none).run Tryz.prog w = .ok (.string (strOfNums (p.drop (p.length - 4)))) w := fun w => by
          rw [← e4]; exact str_from p (p.length - 4) (by omega) w
        have hsl3 : ∀ w, (Instr.slice 9 (.string (strOfNums p)) (some (.int .i64 5)) (some (.int .i64 ((p.length : Int) - 4))) none).run Tryz.prog w = .ok (.string (strOfNums ((p.drop 5).take (p.length - 9)))) w := fun w => by
          rw [← e4, show p.length - 9 = p.length - 4 - 5 by omega]; exact str_slice p 5 (p.length - 4) (by omega) (by omega) w
        have hsub4 : IntKind.i64.wrap ((p.length : Int) - 4) = p.length - 4 := IntWalk.i64_in _ (by omega)
        have hy1 : Byt ((p.drop 4).take (p.length - 8)) := (hy.drop 4).take _
        have hy2 : Byt (p.drop (p.length - 4)) := hy.drop _
        have hl2 : (p.drop (p.length - 4)).length = 4 := by rw [List.length_drop]; omega
        have hS := sumN_lt hy1
        have CS := Lib.hid (fun w' => refSum_any _ hy1 (by rw [List.length_take]; omega) w')
        have CF := Lib.hid (fun w' => four_any _ hS w')
        have hfi := four_iff hy2 hl2 _ hS
        have ⟨k0, k255⟩ := hy.getD 4
        have hAe : (numI p == (p.length : Int) - 9) = true := by simpa using hA
        have hBn : ¬ 8192 < numI p := hB
        have hfb := fourI_byt ((sumN ((p.drop 4).take (p.length - 8)) : Nat) : Int)
        have HNE := Lib.hid (fun (h : fourI ((sumN ((p.drop 4).take (p.length - 8)) : Nat) : Int) ≠ p.drop (p.length - 4)) => str_ne hfb hy2 h)
        have HFI := Lib.hid hfi
        clear hfi hfb hy1 hl2 hS hB e4
        generalize (p.drop 5).take (p.length - 9) = q3 at *
        generalize sumN ((p.drop 4).take (p.length - 8)) = SM at *
        generalize (p.drop 4).take (p.length - 8) = q1 at *
        generalize p.drop (p.length - 4) = q2 at *
        generalize p.getD 4 0 = k at *
        generalize decI p = r at *
        generalize numI p = N at *
        have HA := Lib.hid hA
        clear hA hy hy2
        generalize strOfNums p = S at *
        obtain ⟨F4, hF4⟩ : ∃ F4, F4 = strOfNums (fourI ((SM : Nat) : Int)) := ⟨_, rfl⟩
        rw [← hF4] at HNE CF
        have HF4 := Lib.hid hF4
        clear hF4
        have HN : Hid (N = (p.length : Int) - 9) := HA
        rw [HN.out] at CN hAe hBn
        clear HN HA
        by_cases hk1 : k < 1
        · rw [if_neg (show ¬ (1 ≤ k ∧ k ≤ 9) by omega)] at HDI
          go_enter Tryz.func89, Tryz.ntmps89
          go_wp2_with fail
          refine (CN.out _).mono ?_; rintro e w1 ⟨rfl, n1, hn1⟩
          have HK1 : Hid (Blk w1 w.heap.size 147 [.int .i64 0, .string ⟨#[]⟩]) := by rw [hn1]; exact HKZ.out.drewN _
          have HB1 : Hid (Below w.heap.size w w1) := by rw [hn1]; exact Below.drewN HBZ.out _
          clear hn1
          go_wp2_with fail
          refine (CN.out _).mono ?_; rintro e w2 ⟨rfl, n2, hn2⟩
          have HK2 : Hid (Blk w2 w.heap.size 147 [.int .i64 0, .string ⟨#[]⟩]) := by rw [hn2]; exact HK1.out.drewN _
          have HB2 : Hid (Below w.heap.size w w2) := by rw [hn2]; exact Below.drewN HB1.out _
          clear hn2
          have c0 := HK2.out.cell (i := 0) rfl
          have c1 := HK2.out.cell (i := 1) rfl
          have f0 := HK2.out.frozen 0
          have f1 := HK2.out.frozen 1
          go_wp2_with fail
          have hk3 := (HK2.out.set 0 (.int .i64 0)).set 1 (.string ⟨#[]⟩)
          have d0 := hk3.cell (i := 0) (v := .int .i64 0) rfl
          have d1 := hk3.cell (i := 1) (v := .string ⟨#[]⟩) rfl
          clear hk3 c0 c1 f0 f1
          exact bodyPost_ret (v := .tuple #[.agg #[.int .i64 0, .string ⟨#[]⟩], .int .i64 1]) (by simp [results, Tryz.results89, go_sem, d0, d1]) rfl ⟨by rw [HDI.out]; rfl, (HB2.out.setCell (p := ⟨w.heap.size, 0, none⟩) (Nat.le_refl _) _).setCell (p := ⟨w.heap.size, 1, none⟩) (Nat.le_refl _) _⟩
        by_cases hk9 : 9 < k
        · rw [if_neg (show ¬ (1 ≤ k ∧ k ≤ 9) by omega)] at HDI
          have hk1' : ¬ k < 1 := hk1
          go_enter Tryz.func89, Tryz.ntmps89
          go_wp2_with fail
          refine (CN.out _).mono ?_; rintro e w1 ⟨rfl, n1, hn1⟩
          have HK1 : Hid (Blk w1 w.heap.size 147 [.int .i64 0, .string ⟨#[]⟩]) := by rw [hn1]; exact HKZ.out.drewN _
          have HB1 : Hid (Below w.heap.size w w1) := by rw [hn1]; exact Below.drewN HBZ.out _
          clear hn1
          go_wp2_with fail
          refine (CN.out _).mono ?_; rintro e w2 ⟨rfl, n2, hn2⟩
          have HK2 : Hid (Blk w2 w.heap.size 147 [.int .i64 0, .string ⟨#[]⟩]) := by rw [hn2]; exact HK1.out.drewN _
          have HB2 : Hid (Below w.heap.size w w2) := by rw [hn2]; exact Below.drewN HB1.out _
          clear hn2
          have c0 := HK2.out.cell (i := 0) rfl
          have c1 := HK2.out.cell (i := 1) rfl
          have f0 := HK2.out.frozen 0
          have f1 := HK2.out.frozen 1
          go_wp2_with fail
          have hk3 := (HK2.out.set 0 (.int .i64 0)).set 1 (.string ⟨#[]⟩)
          have d0 := hk3.cell (i := 0) (v := .int .i64 0) rfl
          have d1 := hk3.cell (i := 1) (v := .string ⟨#[]⟩) rfl
          clear hk3 c0 c1 f0 f1
          exact bodyPost_ret (v := .tuple #[.agg #[.int .i64 0, .string ⟨#[]⟩], .int .i64 1]) (by simp [results, Tryz.results89, go_sem, d0, d1]) rfl ⟨by rw [HDI.out]; rfl, (HB2.out.setCell (p := ⟨w.heap.size, 0, none⟩) (Nat.le_refl _) _).setCell (p := ⟨w.heap.size, 1, none⟩) (Nat.le_refl _) _⟩
        · rw [if_pos (show 1 ≤ k ∧ k ≤ 9 by omega)] at HDI
          go_enter Tryz.func89, Tryz.ntmps89
          go_wp2_with fail
          refine (CN.out _).mono ?_; rintro e w1 ⟨rfl, n1, hn1⟩
          have HK1 : Hid (Blk w1 w.heap.size 147 [.int .i64 0, .string ⟨#[]⟩]) := by rw [hn1]; exact HKZ.out.drewN _
          have HB1 : Hid (Below w.heap.size w w1) := by rw [hn1]; exact Below.drewN HBZ.out _
          clear hn1
          go_wp2_with fail
          refine (CN.out _).mono ?_; rintro e w2 ⟨rfl, n2, hn2⟩
          have HK2 : Hid (Blk w2 w.heap.size 147 [.int .i64 0, .string ⟨#[]⟩]) := by rw [hn2]; exact HK1.out.drewN _
          have HB2 : Hid (Below w.heap.size w w2) := by rw [hn2]; exact Below.drewN HB1.out _
          clear hn2
          go_upto_region 5 with fail
          have hB2d : Below w.heap.size w w2.drew := HB2.out.drew
          go_region_held_law (fun _ => True) (trivial) (first | (go_simp; go_at_call 122; refine (CS.out _).mono ?_; rintro e w' ⟨rfl, rfl⟩) | (go_simp; go_at_call 121; refine (CF.out _).mono ?_; rintro e w3 ⟨rfl, hb3⟩))
          have HK3 : Hid (Blk w3 w.heap.size 147 [.int .i64 0, .string ⟨#[]⟩]) := Below.blk hb3 HK2.out.drew.lt HK2.out.drew
          have HB3 : Hid (Below w.heap.size w w3) := hB2d.trans (hb3.mono hB2d.size)
          have c0 := HK3.out.cell (i := 0) rfl
          have c1 := HK3.out.cell (i := 1) rfl
          have f0 := HK3.out.frozen 0
          have f1 := HK3.out.frozen 1
          clear hb3 hB2d HK2 HB2 HK1 HB1 hsl1 hsl2
          by_cases hs : (SM : Int) = numI q2
          · rw [if_pos hs] at HDI
            have hq : strOfNums q2 = F4 := by rw [HF4.out, HFI.out.2 hs]
            rw [hq]
            simp only [beq_self_eq_true, Bool.not_true]
            clear hq hs HNE
            go_upto_region 7 with fail
            have hwk : IntKind.i64.wrap k = k := IntWalk.i64_in _ (by omega)
            go_region_held_law (fun _ => True) (trivial) (fail)
            have hk3 := ((HK3.out.set 0 (.int .i64 k)).set 1 (.string (strOfNums q3))).drew
            have d0 := hk3.cell (i := 0) (v := .int .i64 k) rfl
            have d1 := hk3.cell (i := 1) (v := .string (strOfNums q3)) rfl
            clear hk3 c0 c1 f0 f1
            go_wp2_with fail
            exact bodyPost_ret (v := .tuple #[.agg #[.int .i64 k, .string (strOfNums q3)], .int .i64 0]) (by simp [results, Tryz.results89, go_sem, d0, d1]) rfl ⟨by rw [HDI.out], ((HB3.out.setCell (p := ⟨w.heap.size, 0, none⟩) (Nat.le_refl _) _).setCell (p := ⟨w.heap.size, 1, none⟩) (Nat.le_refl _) _).drew⟩
          · rw [if_neg hs] at HDI
            have hne := HNE.out (fun h => hs (HFI.out.1 h))
            simp only [hne, Bool.not_false]
            clear hs HNE hne
            go_wp2_with fail
            have hk3 := (HK3.out.set 0 (.int .i64 0)).set 1 (.string ⟨#[]⟩)
            have d0 := hk3.cell (i := 0) (v := .int .i64 0) rfl
            have d1 := hk3.cell (i := 1) (v := .string ⟨#[]⟩) rfl
            clear hk3 c0 c1 f0 f1
            exact bodyPost_ret (v := .tuple #[.agg #[.int .i64 0, .string ⟨#[]⟩], .int .i64 6]) (by simp [results, Tryz.results89, go_sem, d0, d1]) rfl ⟨by rw [HDI.out]; rfl, (HB3.out.setCell (p := ⟨w.heap.size, 0, none⟩) (Nat.le_refl _) _).setCell (p := ⟨w.heap.size, 1, none⟩) (Nat.le_refl _) _⟩
    · have HD : Hid (decodeI p = (0, [], 2)) := by
        show _ = _; unfold decodeI
        rw [if_neg]
        unfold sizeF
        rintro ⟨h2, h1⟩
        split at h2
        · rename_i hh
          rw [if_pos hh] at h1
          have : numI p + 9 = p.length := h1
          omega
        · cases h2
      rw [HD.out]
      have hAe : (numI p == (p.length : Int) - 9) = false := by simpa using hA
      have hAn : (numI p != (p.length : Int) - 9) = true := by simpa using hA
      generalize strOfNums p = S at *
      generalize numI p = N at *
      generalize p.length = n at *
      clear HYP hy n0 n1 h9 HD hl hA
      go_enter Tryz.func89, Tryz.ntmps89
      go_wp2_with fail
      refine (CN.out _).mono ?_; rintro e w1 ⟨rfl, k1, hk1⟩
      have HK2 : Hid (Blk w1 w.heap.size 147 [.int .i64 0, .string ⟨#[]⟩]) := by rw [hk1]; exact HKZ.out.drewN _
      have HB2 : Hid (Below w.heap.size w w1) := by rw [hk1]; exact Below.drewN HBZ.out _
      clear hk1
      have c0 := HK2.out.cell (i := 0) rfl
      have c1 := HK2.out.cell (i := 1) rfl
      have f0 := HK2.out.frozen 0
      have f1 := HK2.out.frozen 1
      go_wp2_with fail
      have hk3 := (HK2.out.set 0 (.int .i64 0)).set 1 (.string ⟨#[]⟩)
      have d0 := hk3.cell (i := 0) (v := .int .i64 0) rfl
      have d1 := hk3.cell (i := 1) (v := .string ⟨#[]⟩) rfl
      clear hk3 c0 c1 f0 f1
      exact bodyPost_ret (v := .tuple #[.agg #[.int .i64 0, .string ⟨#[]⟩], .int .i64 2]) (by simp [results, Tryz.results89, go_sem, d0, d1]) rfl ⟨rfl, (HB2.out.setCell (p := ⟨w.heap.size, 0, none⟩) (Nat.le_refl _) _).setCell (p := ⟨w.heap.size, 1, none⟩) (Nat.le_refl _) _⟩
end Go.Proofs.YtigbgajelkknbaaGreatDoor.Fr
namespace Go.Proofs.YtigbgajelkknbaaGreatDoor.Fr
open Go.RowKit
set_option maxRecDepth 100000

theorem m1_odd {n : Nat} (h : n < 4294967296) (ho : n % 2 = 1) : 2147483648 ≤ m1 n := by
  unfold m1
  rw [if_pos ho]
  refine Nat.ge_two_pow_of_testBit (i := 31) ?_
  rw [Nat.testBit_xor, Nat.testBit_lt_two_pow (show n / 2 < 2 ^ 31 by omega)]
  decide
theorem m1_inj {a b : Nat} (ha : a < 4294967296) (hb : b < 4294967296) (h : m1 a = m1 b) : a = b := by
  rcases Nat.mod_two_eq_zero_or_one a with pa | pa <;> rcases Nat.mod_two_eq_zero_or_one b with pb | pb
  · unfold m1 at h
    rw [if_neg (by omega), if_neg (by omega)] at h
    omega
  · have := m1_odd hb pb
    rw [← h] at this
    unfold m1 at this
    rw [if_neg (by omega)] at this
    omega
  · have := m1_odd ha pa
    rw [h] at this
    unfold m1 at this
    rw [if_neg (by omega)] at this
    omega
  · unfold m1 at h
    rw [if_pos pa, if_pos pb] at h
    have e : a / 2 = b / 2 := by
      have := congrArg (· ^^^ 2197175160) h
      simpa [Nat.xor_assoc] using this
    omega
theorem mv_inj {a b : Nat} (ha : a < 4294967296) (hb : b < 4294967296) : ∀ k, mv k a = mv k b → a = b
  | 0, h => h
  | k + 1, h => mv_inj ha hb k (m1_inj (mv_lt ha k) (mv_lt hb k) h)
theorem step_lt {c : Nat} (hc : c < 4294967296) {x : Int} (h0 : 0 ≤ x) (h1 : x ≤ 255) : c ^^^ x.toNat < 4294967296 := Nat.xor_lt_two_pow (n := 32) hc (by omega)
theorem crcN_inj : ∀ (q : List Int) {a b : Nat}, Byt q → a < 4294967296 → b < 4294967296 → crcN a q = crcN b q → a = b
  | [], _, _, _, _, _, h => h
  | x :: q, a, b, hq, ha, hb, h => by
    have hx := hq x (by simp)
    have h1 := crcN_inj q (fun z hz => hq z (by simp [hz])) (m8_lt (step_lt ha hx.1 hx.2)) (m8_lt (step_lt hb hx.1 hx.2)) h
    have h2 := mv_inj (step_lt ha hx.1 hx.2) (step_lt hb hx.1 hx.2) 8 h1
    have := congrArg (· ^^^ x.toNat) h2
    simpa [Nat.xor_assoc] using this
/-- Bytes that differ in one place have sums that differ. -/
theorem sumN_set {p : List Int} (hp : Byt p) {i : Nat} (hi : i < p.length) {y : Int} (h0 : 0 ≤ y) (h1 : y ≤ 255) (hne : y ≠ p.getD i 0) : sumN (p.set i y) ≠ sumN p := by
  intro h
  have hx := hp.getD i
  have e1 : p = p.take i ++ [p.getD i 0] ++ p.drop (i + 1) := by
    rw [List.getD_eq_getElem?_getD, List.getElem?_eq_getElem hi, Option.getD_some, List.append_assoc, List.singleton_append, List.getElem_cons_drop, List.take_append_drop]
  have e2 : p.set i y = p.take i ++ [y] ++ p.drop (i + 1) := by
    rw [List.set_eq_take_append_cons_drop, if_pos hi, List.append_assoc]; rfl
  have hc := crcN_lt (c := 4294967295) (by omega) (p.take i) (hp.take i)
  have k1 : crcN 4294967295 (p.set i y) = crcN 4294967295 p := by
    unfold sumN at h
    have := congrArg (· ^^^ 4294967295) h
    simpa [Nat.xor_assoc] using this
  rw [e2] at k1
  rw [show crcN 4294967295 p = crcN 4294967295 (p.take i ++ [p.getD i 0] ++ p.drop (i + 1)) by rw [← e1], crcN_append, crcN_append, crcN_append, crcN_append] at k1
  generalize crcN 4294967295 (p.take i) = c at *
  have k2 := crcN_inj _ (hp.drop (i + 1)) (m8_lt (step_lt hc h0 h1)) (m8_lt (step_lt hc hx.1 hx.2)) k1
  have k3 := mv_inj (step_lt hc h0 h1) (step_lt hc hx.1 hx.2) 8 k2
  have k4 : y.toNat = (p.getD i 0).toNat := by
    have := congrArg (c ^^^ ·) k3
    simpa [← Nat.xor_assoc] using this
  omega
theorem Byt.set {p : List Int} (hp : Byt p) (i : Nat) {y : Int} (h0 : 0 ≤ y) (h1 : y ≤ 255) : Byt (p.set i y) := fun z hz => by
  rcases List.mem_or_eq_of_mem_set hz with h | rfl
  · exact hp z h
  · exact ⟨h0, h1⟩
theorem set_self {p : List Int} {i : Nat} (hi : i < p.length) : p.set i (p.getD i 0) = p := by
  rw [List.getD_eq_getElem?_getD, List.getElem?_eq_getElem hi, Option.getD_some, List.set_getElem_self]
/-- What is read of a frame of which one byte behind the length is another one. -/
theorem turned_is {k : Int} {p : List Int} (k0 : 1 ≤ k) (k1 : k ≤ 9) (hy : Byt p) (hl : p.length ≤ 8192) {i : Nat} (hi : 4 ≤ i) (hi2 : i < p.length + 9) {y : Int} (y0 : 0 ≤ y) (y1 : y ≤ 255) (hne : y ≠ (frameI k p).getD i 0) :
    decodeI ((frameI k p).set i y) = (0, [], 6) ∨ i = 4 ∧ decodeI ((frameI k p).set i y) = (0, [], 1) := by
  have hlen := frameI_length k p
  obtain ⟨j, rfl⟩ : ∃ j, i = 4 + j := ⟨i - 4, by omega⟩
  have hib := innerI_byt k0 k1 hy
  have hil : (innerI k p).length = p.length + 1 := rfl
  obtain ⟨q, hq⟩ : ∃ q, q = innerI k p ++ fourI (sumN (innerI k p) : Nat) := ⟨_, rfl⟩
  have hfq : frameI k p = fourI p.length ++ q := by unfold frameI; rw [hq]
  have hql : q.length = p.length + 5 := by rw [hq, List.length_append, hil, fourI_length]
  have hset : (frameI k p).set (4 + j) y = fourI p.length ++ q.set j y := by
    rw [hfq, List.set_append_right _ _ (by show 4 ≤ 4 + j; omega)]
    congr 2
    show 4 + j - 4 = j
    omega
  have hsl : (fourI (p.length : Int) ++ q.set j y).length = p.length + 9 := by rw [List.length_append, List.length_set, hql, fourI_length]; omega
  have hn : numI (fourI (p.length : Int) ++ q.set j y) = p.length := numI_four _ (by omega) (by omega) _
  have hz : sizeF (fourI (p.length : Int) ++ q.set j y) = ((p.length : Int) + 9, true) := by
    unfold sizeF; rw [hn, hsl, if_pos (by omega)]
  have hd4 : (fourI (p.length : Int) ++ q.set j y).drop 4 = q.set j y := rfl
  have hfg : (frameI k p).getD (4 + j) 0 = q.getD j 0 := by
    rw [hfq, List.getD_eq_getElem?_getD, List.getElem?_append_right (by show 4 ≤ _; omega), List.getD_eq_getElem?_getD]
    congr 2
    show 4 + j - 4 = j
    omega
  rw [hfg] at hne
  rw [hset]
  unfold decodeI
  rw [hz, if_pos ⟨rfl, by rw [hsl]; show (p.length : Int) + 9 = _; omega⟩]
  unfold decI
  have hg4 : (fourI (p.length : Int) ++ q.set j y).getD 4 0 = (q.set j y).getD 0 0 := rfl
  rw [hg4, hd4, hsl]
  have hdl : (fourI (p.length : Int) ++ q.set j y).drop (p.length + 9 - 4) = (q.set j y).drop (p.length + 1) := by
    rw [show p.length + 9 - 4 = 4 + (p.length + 1) by omega, ← List.drop_drop]; rfl
  rw [hdl]
  by_cases hj : j < p.length + 1
  · -- the kind or the payload
    have hqs : q.set j y = (innerI k p).set j y ++ fourI (sumN (innerI k p) : Nat) := by rw [hq, List.set_append_left _ _ (by rw [hil]; exact hj)]
    have hsil : ((innerI k p).set j y).length = p.length + 1 := by rw [List.length_set]; exact hil
    have ht : (q.set j y).take (p.length + 9 - 8) = (innerI k p).set j y := by
      rw [hqs, List.take_append_of_le_length (by omega), List.take_of_length_le (by omega)]
    have hd : (q.set j y).drop (p.length + 1) = fourI (sumN (innerI k p) : Nat) := by
      rw [hqs, List.drop_append_of_le_length (by omega), List.drop_of_length_le (by omega)]; rfl
    have hqg : q.getD j 0 = (innerI k p).getD j 0 := by
      rw [hq, List.getD_eq_getElem?_getD, List.getElem?_append_left (by omega), List.getD_eq_getElem?_getD]
    rw [hqg] at hne
    have hS := sumN_lt hib
    have hns : numI (fourI (sumN (innerI k p) : Nat)) = (sumN (innerI k p) : Nat) := by
      have := numI_four ((sumN (innerI k p) : Nat) : Int) (by omega) (by omega) []
      rwa [List.append_nil] at this
    have hsne := sumN_set hib (by omega : j < (innerI k p).length) y0 y1 hne
    rw [ht, hd, hns]
    by_cases hkk : 1 ≤ (q.set j y).getD 0 0 ∧ (q.set j y).getD 0 0 ≤ 9
    · rw [if_pos hkk, if_neg (by omega)]
      exact .inl rfl
    · rw [if_neg hkk]
      refine .inr ⟨?_, rfl⟩
      by_cases h0 : j = 0
      · omega
      · exfalso
        apply hkk
        have : (q.set j y).getD 0 0 = k := by
          rw [List.getD_eq_getElem?_getD, List.getElem?_set_ne (by omega), hq]; rfl
        rw [this]; exact ⟨k0, k1⟩
  · -- the sum
    obtain ⟨m, rfl⟩ : ∃ m, j = p.length + 1 + m := ⟨j - (p.length + 1), by omega⟩
    have hqs : q.set (p.length + 1 + m) y = innerI k p ++ (fourI (sumN (innerI k p) : Nat)).set m y := by
      rw [hq, List.set_append_right _ _ (by omega), hil]
      congr 2
      omega
    have ht : (q.set (p.length + 1 + m) y).take (p.length + 9 - 8) = innerI k p := by
      rw [hqs, List.take_append_of_le_length (by omega), List.take_of_length_le (by omega)]
    have hd : (q.set (p.length + 1 + m) y).drop (p.length + 1) = (fourI (sumN (innerI k p) : Nat)).set m y := by
      rw [hqs, List.drop_append_of_le_length (by omega), List.drop_of_length_le (by omega)]; rfl
    have hk0 : (q.set (p.length + 1 + m) y).getD 0 0 = k := by
      rw [List.getD_eq_getElem?_getD, List.getElem?_set_ne (by omega), hq]; rfl
    have hS := sumN_lt hib
    have hqg : q.getD (p.length + 1 + m) 0 = (fourI (sumN (innerI k p) : Nat)).getD m 0 := by
      rw [hq, List.getD_eq_getElem?_getD, List.getElem?_append_right (by omega), List.getD_eq_getElem?_getD, hil]
      congr 2
      omega
    rw [hqg] at hne
    rw [ht, hd, hk0, if_pos ⟨k0, k1⟩, if_neg]
    · exact .inl rfl
    · intro h
      have hfour : (fourI (sumN (innerI k p) : Nat)).set m y = fourI (sumN (innerI k p) : Nat) :=
        ((four_iff ((fourI_byt _).set m y0 y1) (by rw [List.length_set]; rfl) _ hS).2 h).symm
      apply hne
      have hm4 : m < 4 := by omega
      have := congrArg (fun l : List Int => l.getD m 0) hfour
      rw [← this, List.getD_eq_getElem?_getD, List.getElem?_set_self (by rw [fourI_length]; exact hm4)]
      rfl
end Go.Proofs.YtigbgajelkknbaaGreatDoor.Fr
namespace Go.Proofs.YtigbgajelkknbaaGreatDoor.Fr
open Go.RowKit
set_option maxRecDepth 100000

/-- The frame that bytes begin with: kind, payload, size. -/
def nextF (p : List Int) : Option (Int × List Int × Nat) :=
  if (sizeF p).2 = true then if (decI (p.take (sizeF p).1.toNat)).2.2 = 0 then some ((decI (p.take (sizeF p).1.toNat)).1, (decI (p.take (sizeF p).1.toNat)).2.1, (sizeF p).1.toNat) else none else none
/-- The frames of the front of bytes, and how many bytes it has. -/
inductive Scanned : List Int → List (Int × List Int) → Nat → Prop
  | stop {p : List Int} : nextF p = none → Scanned p [] 0
  | step {p : List Int} {k : Int} {q : List Int} {n m : Nat} {fs : List (Int × List Int)} : nextF p = some (k, q, n) → Scanned (p.drop n) fs m → Scanned p ((k, q) :: fs) (n + m)
theorem Scanned.same {p : List Int} {fs : List (Int × List Int)} {m : Nat} (h : Scanned p fs m) : ∀ {fs' : List (Int × List Int)} {m' : Nat}, Scanned p fs' m' → fs = fs' ∧ m = m' := by
  induction h with
  | stop h =>
    intro fs' m' h'
    cases h' with
    | stop => exact ⟨rfl, rfl⟩
    | step g _ => rw [h] at g; cases g
  | step h _ ih =>
    intro fs' m' h'
    cases h' with
    | stop g => rw [h] at g; cases g
    | step g k =>
      rw [h] at g
      injection g with g
      injection g with g1 g
      injection g with g2 g3
      subst g1 g2 g3
      obtain ⟨rfl, rfl⟩ := ih k
      exact ⟨rfl, rfl⟩
theorem sizeF_true {p : List Int} (hy : Byt p) (h : (sizeF p).2 = true) : ∃ n : Nat, sizeF p = ((n : Int), true) ∧ 9 ≤ n ∧ n ≤ p.length ∧ n ≤ 8201 ∧ numI p + 9 = n := by
  have h0 := (numI_bounds hy).1
  unfold sizeF at *
  split at h
  · rename_i hh
    rw [if_pos hh]
    exact ⟨(numI p + 9).toNat, by rw [Int.toNat_of_nonneg (by omega)], by omega, by omega, by omega, by omega⟩
  · cases h

theorem nextF_size {p : List Int} (hy : Byt p) {k : Int} {q : List Int} {n : Nat} (h : nextF p = some (k, q, n)) : 9 ≤ n ∧ n ≤ p.length := by
  unfold nextF at h
  by_cases hw : (sizeF p).2 = true
  · obtain ⟨m, hm, m9, ml, _, _⟩ := sizeF_true hy hw
    rw [hm, if_pos rfl, Int.toNat_natCast] at h
    split at h
    · injection h with h
      injection h with _ h
      injection h with _ h
      omega
    · cases h
  · rw [if_neg hw] at h; cases h
theorem Scanned.len {p : List Int} {fs : List (Int × List Int)} {m : Nat} (h : Scanned p fs m) : Byt p → 9 * fs.length ≤ m ∧ m ≤ p.length := by
  induction h with
  | stop _ => intro _; simp
  | step h _ ih =>
    intro hy
    have h1 := nextF_size hy h
    have h2 := ih (hy.drop _)
    rw [List.length_drop] at h2
    rw [List.length_cons]
    omega

/-- Frames in memory: kind, payload, the payload's value. -/
def cellsF (xs : List (Int × List Int × Value)) : List Value := xs.flatMap fun t => [.int .i64 t.1, t.2.2]
theorem cellsF_append (a b : List (Int × List Int × Value)) : cellsF (a ++ b) = cellsF a ++ cellsF b := by unfold cellsF; rw [List.flatMap_append]
theorem cellsF_length : ∀ xs : List (Int × List Int × Value), (cellsF xs).length = xs.length * 2
  | [] => rfl
  | t :: xs => by
    have := cellsF_length xs
    unfold cellsF at *
    rw [List.flatMap_cons, List.length_append, this, List.length_cons]; simp; omega
theorem cellsF_get : ∀ (xs : List (Int × List Int × Value)) (i : Nat) (t : Int × List Int × Value), xs[i]? = some t → (cellsF xs)[2 * i]? = some (.int .i64 t.1) ∧ (cellsF xs)[2 * i + 1]? = some t.2.2
  | [], _, _, h => by cases h
  | t :: xs, 0, t', h => by cases h; exact ⟨rfl, rfl⟩
  | t :: xs, i + 1, t', h => by
    have := cellsF_get xs i t' (by simpa using h)
    have e : cellsF (t :: xs) = .int .i64 t.1 :: t.2.2 :: cellsF xs := by unfold cellsF; rw [List.flatMap_cons]; rfl
    rw [e, show 2 * (i + 1) = 2 * i + 1 + 1 by omega]
    exact this
structure Frs (w : World) (base : Nat) (v : Value) (xs : List (Int × List Int × Value)) : Prop where
  own : w.ownsRow base 118 2 v xs.length (cellsF xs)
  pay : ∀ t ∈ xs, OwnB w base t.2.2 t.2.1
theorem frameInfo : (Tryz.prog.info? 118).map (fun i => (i.zero, i.size, i.bytes)) = some (some (.agg #[.int .i64 0, .slice none 0 0]), 2, 32) := by kernel_rfl
theorem Frs.nil (w : World) (base : Nat) : Frs w base (.slice none 0 0) [] := ⟨World.ownsRow_nil _ _ _ _, fun t ht => by cases ht⟩
theorem Frs.keep {w w' : World} {base : Nat} {v : Value} {xs : List (Int × List Int × Value)} (h : Frs w base v xs) (hb : Below w.heap.size w w') : Frs w' base v xs := by
  refine ⟨⟨h.own.1, ?_⟩, fun t ht => (h.pay t ht).keep hb⟩
  rcases h.own.2 with h1 | ⟨g, cap, cur, h1, h2, h3, h4⟩
  · exact .inl h1
  · refine .inr ⟨g, cap, cur, h1, h2, ?_, h4⟩
    rw [hb.block g ?_]
    · exact h3
    · by_cases k : g < w.heap.size
      · exact k
      · rw [Array.getElem?_eq_none (by omega)] at h3; cases h3
/-- Bytes of one's own lie elsewhere than frames of one's own. -/
theorem OwnB.grownF {w w' : World} {base : Nat} {u v : Value} {p : List Int} {n : Nat} {cs : List Value} (h : OwnB w base u p) (hv : w.ownsRow base 118 2 v n cs) (hg : w.grownBy w' v.ownBlock) : OwnB w' base u p := by
  refine ⟨h.1, ?_⟩
  rcases h.2 with h1 | ⟨g, cap, cur, h1, h2, h3, h4⟩
  · exact .inl h1
  · refine .inr ⟨g, cap, cur, h1, h2, ?_, h4⟩
    rw [hg.block g ?_ ?_]
    · exact h3
    · by_cases k : g < w.heap.size
      · exact k
      · rw [Array.getElem?_eq_none (by omega)] at h3; cases h3
    · intro e
      rcases hv.2 with ⟨hn, _⟩ | ⟨x, cap', cur', hx, _, hh, _⟩
      · rw [hn] at e; cases e
      · rw [hx] at e
        have : g = x := Option.some.inj e
        subst this
        rw [h3] at hh
        injection hh with hh
        injection hh with _ hh
        cases hh
end Go.Proofs.YtigbgajelkknbaaGreatDoor.Fr
namespace Go.Proofs.YtigbgajelkknbaaGreatDoor.Fr
open Go.RowKit
set_option maxRecDepth 100000

/-- One more frame that is laid behind. -/
theorem wpList_append_frame {ops : Array Oper} {rest : List Oper} {o : Oper} {a : Act} {w : World} {Q : Exit → Act → World → Prop} (hgd : o.guard = none) (s x : Operand)
    (ho : o.op = .call { callee := .builtin .append, args := #[s, x], argTypes := #[138, 138] })
    (base : Nat) (v : Value) (xs : List (Int × List Int × Value)) (k : Int) (p : List Int) (u : Value) (hs : a.eval s = v) (hown : Frs w base v xs) (hpay : OwnB w base u p) (hu : u.oneCell' = true) (b : Nat) (hx : a.eval x = .slice (some ⟨b, 0, none⟩) 1 1)
    (hb : Blk w b 118 [.int .i64 k, u]) (hle : xs.length ≤ 1000000) (hbase : base ≤ w.heap.size)
    (h : ∀ v' w', Frs w' base v' (xs ++ [(k, p, u)]) → w.grownBy w' v.ownBlock → wpList Tryz.prog ops Q rest (a.put o.dst v') w') : wpList Tryz.prog ops Q (o :: rest) a w := by
  obtain ⟨i0, hi, hz0, hz1, hz2⟩ := info_parts frameInfo
  refine wpList_append_own w hgd s x 138 ho base 118 i0 (.agg #[.int .i64 0, .slice none 0 0]) 2 32 Tryz.underlying138 hi hz0 hz1 hz2 rfl (by decide) v xs.length (cellsF xs) hs hown.own ⟨b, 0, none⟩ 1 1 [.int .i64 k, u] hx
    rfl (fun j y hy => by rw [Addr.add_mid, Nat.zero_add]; exact hb.cell hy) (fun y hy => by
      rcases List.mem_cons.1 hy with rfl | hy
      · rfl
      · rw [List.mem_singleton] at hy; subst hy; exact hu) (by unfold maxLen; omega) (by omega) hbase ?_
  intro v' w' h1 h2 _
  refine h v' w' ⟨?_, fun t ht => ?_⟩ h2
  · rw [List.length_append, cellsF_append]; exact h1
  · rcases List.mem_append.1 ht with ht | ht
    · exact (hown.pay t ht).grownF hown.own h2
    · rw [List.mem_singleton] at ht
      subst ht
      exact hpay.grownF hown.own h2
theorem Frs.slice {w : World} {base : Nat} {v : Value} {xs : List (Int × List Int × Value)} (h : Frs w base v xs) : ∃ a c, v = .slice a xs.length c := by
  rcases h.own.2 with ⟨rfl, h0⟩ | ⟨g, cap, cur, rfl, _⟩
  · exact ⟨none, 0, by rw [h0]⟩
  · exact ⟨_, _, rfl⟩
theorem Frs.below {w w' : World} {base : Nat} {v : Value} {xs : List (Int × List Int × Value)} (h : Frs w base v xs) (hg : w.grownBy w' v.ownBlock) (hb : base ≤ w.heap.size) : Below base w w' :=
  (Below.refl base w).grown hg hb fun k hk => (h.own.lt k hk).1
theorem Frs.mono {w : World} {base base' : Nat} {v : Value} {xs : List (Int × List Int × Value)} (h : Frs w base v xs) (hb : base' ≤ base) : Frs w base' v xs := by
  refine ⟨⟨h.own.1, ?_⟩, fun t ht => (h.pay t ht).mono hb⟩
  rcases h.own.2 with h1 | ⟨g, cap, cur, h1, h2, h3, h4⟩
  · exact .inl h1
  · exact .inr ⟨g, cap, cur, h1, Nat.le_trans hb h2, h3, h4⟩
def plainF (xs : List (Int × List Int × Value)) : List (Int × List Int) := xs.map fun t => (t.1, t.2.1)
/-- What Scan answers. -/
def ScanR (w : World) (p : List Int) (e : Ending) (w' : World) : Prop := ∃ v xs m, e = .returned (.tuple #[v, .int .i64 (m : Nat)]) ∧ Scanned p (plainF xs) m ∧ Frs w' w.heap.size v xs ∧ Below w.heap.size w w'

set_option maxRecDepth 100000 in
set_option maxHeartbeats 8000000 in
theorem scan_any (v : Value) (p : List Int) (w : World) (hb : BytesE w v p) (hy : Byt p) (hl : p.length ≤ 1000000) :
    Calls Tryz.prog 69 #[v] w (ScanR w p) := by
  obtain ⟨va, vc, rfl⟩ := hb.slice
  have HB := Lib.hid hb
  have HY := Lib.hid hy
  clear hb hy
  go_enter Tryz.func69, Tryz.ntmps69
  go_wp2_with fail
  refine (newTable_any _).mono ?_; rintro e w1 ⟨rfl, hk1, hb1⟩
  have HK1 := Lib.hid hk1
  have HB1 := Lib.hid hb1
  have hz1 := hk1.lt
  clear hk1 hb1
  go_wp2_with fail
  go_loopw [4, 6, 7, 8, 9, 10] (fun s4 s6 _ _ _ _ wr => ∃ (F : Nat) (xs : List (Int × List Int × Value)) (g : Option Addr) (c : Nat), F ≤ p.length ∧ s6 = .int .i64 F ∧ s4 = .slice g xs.length c ∧ Frs wr w1.heap.size s4 xs ∧ Below w1.heap.size w1 wr ∧ xs.length ≤ F ∧
      ∀ fs m, Scanned (p.drop F) fs m → Scanned p (plainF xs ++ fs) (F + m)) (fun _ s6 _ _ _ _ _ => p.length - (intOf s6).toNat)
  case atStart => exact ⟨0, [], none, 0, by omega, rfl, rfl, Frs.nil _ _, Below.refl _ _, by simp, fun fs m h => by simpa [plainF] using h⟩
  case round =>
    obtain ⟨F, xs, g, c, hF, rfl, rfl, hO, hB, hxl, hSc⟩ := hrel
    obtain ⟨sa, sc, hs1, hb1⟩ := slice_from HB.out F (p.length - F) (by omega)
    have hyd := HY.out.drop F
    have hdl : (p.drop F).length = p.length - F := List.length_drop
    have cF := fun (w' : World) (hbw : Below w.heap.size w w') => frameSize_any _ (p.drop F) w' (hb1.below hbw) hyd (by omega)
    have hs1' : ∀ w : World, (Instr.slice 37 (.slice va p.length vc) (some (.int .i64 F)) none none).run Tryz.prog w = .ok (.slice sa (p.length - F) sc) w := hs1
    have HO := Lib.hid hO
    have HB2 := Lib.hid hB
    have HBW := Lib.hid (HB1.out.trans (hB.mono (Nat.le_of_lt hz1)))
    have HSC := Lib.hid hSc
    by_cases hw : (sizeF (p.drop F)).2 = true
    · obtain ⟨n, hn, n9, nle, n8, nI⟩ := sizeF_true hyd hw
      have HNX : Hid (nextF (p.drop F) = if (decI ((p.drop F).take n)).2.2 = 0 then some ((decI ((p.drop F).take n)).1, (decI ((p.drop F).take n)).2.1, n) else none) := by
        show _ = _; unfold nextF; rw [hn, if_pos rfl, Int.toNat_natCast]
      rw [hn] at cF
      rw [hdl] at nle
      obtain ⟨ta, tc, hs2, hb2⟩ := slice_bytes HB.out F n (by omega)
      have hs2' : ∀ w : World, (Instr.slice 37 (.slice va p.length vc) (some (.int .i64 F)) (some (.int .i64 ((F : Int) + n))) none).run Tryz.prog w = .ok (.slice ta n tc) w := fun w => by
        have := hs2 w (F + n) rfl
        rwa [show ((F + n : Nat) : Int) = (F : Int) + n by omega] at this
      have htl : ((p.drop F).take n).length = n := by rw [List.length_take, hdl]; omega
      have cD := fun (w' : World) (hbw : Below w.heap.size w w') (ht : Blk w' w.heap.size 225 (tabI.map (Value.int .u32))) => decode_any w.heap.size _ ((p.drop F).take n) w' ht (hb2.below hbw) (hyd.take n) (by omega) (by omega)
      generalize decI ((p.drop F).take n) = r at *
      obtain ⟨rk, rp, rc⟩ := r
      simp only at cD HNX
      have CF := Lib.hid cF
      have CD := Lib.hid cD
      have hz2 := hB.size
      clear cF cD hs1 hs2 hb1 hb2 hyd hw hn htl hO hB hSc nI hdl
      go_wp2_with fail
      refine (CF.out _ HBW.out).mono ?_; rintro e w' ⟨rfl, rfl⟩
      go_wp2_with fail
      refine (CD.out _ HBW.out (Below.blk HB2.out hz1 HK1.out)).mono ?_; rintro e w4 ⟨v4, rfl, ho4, hb4⟩
      obtain ⟨g4, n4, c4, rfl⟩ : ∃ g n c, v4 = .slice g n c := by
        obtain ⟨g, c, h⟩ := ho4.slice
        exact ⟨g, _, c, h⟩
      have HO4 := Lib.hid ho4
      have HB4 := Lib.hid hb4
      clear ho4 hb4
      by_cases hrc : rc = 0
      · rw [if_pos hrc] at HNX
        subst hrc
        go_upto_region 8 with fail
        refine wp_world fun w5 hw5 => ?_
        have hb45 : Below w4.heap.size w4 w5 := by rw [hw5]; exact (Below.refl _ _).alloc (Nat.le_refl _) _
        have hk5 : Blk w5 w4.heap.size 118 [.int .i64 rk, .slice g4 n4 c4] := by rw [hw5]; exact Blk.new w4 118 [.int .i64 rk, .slice g4 n4 c4]
        have c0 := hk5.cell (i := 0) rfl
        have c1 := hk5.cell (i := 1) rfl
        have hbr5 : Below wr.heap.size wr w5 := HB4.out.trans (hb45.mono HB4.out.size)
        have HFR : Hid (Frs (w5.alloc (.cells #[.int .i64 rk, .slice g4 n4 c4] 118)) w1.heap.size (.slice g xs.length c) xs) := (HO.out.keep hbr5).keep ((Below.refl _ _).alloc (Nat.le_refl _) _)
        have HPY : Hid (OwnB (w5.alloc (.cells #[.int .i64 rk, .slice g4 n4 c4] 118)) w1.heap.size (.slice g4 n4 c4) rp) := ((HO4.out.keep hb45).alloc _).mono hz2
        have HNB : Hid (Blk (w5.alloc (.cells #[.int .i64 rk, .slice g4 n4 c4] 118)) w5.heap.size 118 [.int .i64 rk, .slice g4 n4 c4]) := Blk.new w5 118 [.int .i64 rk, .slice g4 n4 c4]
        have hba : Below wr.heap.size wr (w5.alloc (.cells #[.int .i64 rk, .slice g4 n4 c4] 118)) := hbr5.alloc hbr5.size _
        have HBA := Lib.hid hba
        have HBS := Lib.hid (Nat.le_trans hz2 hba.size)
        clear hw5 hb45 hk5 hbr5 hba
        go_wp2_with (with_reducible refine wpList_append_frame rfl (.tmp 38) (.tmp 40) rfl w1.heap.size (.slice g xs.length c) xs rk rp (.slice g4 n4 c4) ?_ HFR.out HPY.out rfl w5.heap.size ?_ HNB.out ?_ HBS.out ?_)
        case refine_1 => rfl
        case refine_2 => rfl
        case refine_3 => omega
        intro v6 w6 hF6 hg6
        have hB6 : Below w1.heap.size w1 w6 := (HB2.out.trans (HBA.out.mono hz2)).trans (HFR.out.below hg6 HBS.out)
        obtain ⟨g6, c6, hv6⟩ := hF6.slice
        have hl6 : (xs ++ [(rk, rp, Value.slice g4 n4 c4)]).length = xs.length + 1 := by simp
        obtain ⟨ys, hys⟩ : ∃ ys, ys = xs ++ [(rk, rp, Value.slice g4 n4 c4)] := ⟨_, rfl⟩
        rw [← hys] at hF6 hv6 hl6
        subst hv6
        have HYS := Lib.hid hys
        have HF6 := Lib.hid hF6
        have HB6 := Lib.hid hB6
        have HL6 := Lib.hid hl6
        clear hF6 hg6 hB6 hl6 hys c0 c1 HFR HPY HNB HBA HBS
        go_wp2_with fail
        go_roundw
        case rel => exact ⟨F + n, ys, g6, c6, by omega, by go_num, rfl, HF6.out, HB6.out, by rw [HL6.out]; omega, fun fs m h => by
          have := HSC.out ((rk, rp) :: fs) (n + m) (.step HNX.out (by rw [List.drop_drop]; exact h))
          rw [HYS.out]
          unfold plainF at this ⊢
          rw [List.map_append, List.append_assoc, Nat.add_assoc]
          exact this⟩
        case measure => simp [intOf]; omega
      · rw [if_neg hrc] at HNX
        have hrn : (rc == 0) = false := by simpa using hrc
        clear hrc
        go_wp2_with fail
        go_ret2
        exact ⟨_, xs, F, rfl, by have := HSC.out [] 0 (.stop HNX.out); simpa using this, ((HO.out.keep HB4.out).keep ((Below.refl _ _).alloc (Nat.le_refl _) _)).mono (Nat.le_of_lt hz1), (HBW.out.trans (HB4.out.mono HBW.out.size)).alloc (Nat.le_trans HBW.out.size HB4.out.size) _⟩
    · have HNX : Hid (nextF (p.drop F) = none) := by show _ = _; unfold nextF; rw [if_neg hw]
      have hn : sizeF (p.drop F) = (0, false) := by
        unfold sizeF at hw ⊢
        split at hw
        · exact absurd rfl hw
        · rename_i hh; rw [if_neg hh]
      rw [hn] at cF
      have CF := Lib.hid cF
      clear cF hs1 hb1 hyd hw hn hO hB hSc hdl
      go_wp2_with fail
      refine (CF.out _ HBW.out).mono ?_; rintro e w' ⟨rfl, rfl⟩
      go_wp2_with fail
      go_ret2
      exact ⟨_, xs, F, rfl, by have := HSC.out [] 0 (.stop HNX.out); simpa using this, HO.out.mono (Nat.le_of_lt hz1), HBW.out⟩
end Go.Proofs.YtigbgajelkknbaaGreatDoor.Fr
namespace Go.Proofs.YtigbgajelkknbaaGreatDoor.Fr
open Go.RowKit
set_option maxRecDepth 100000

theorem nextF_short {q : List Int} (h : q.length < 9 ∨ (q.length : Int) < numI q + 9) : nextF q = none := by
  unfold nextF sizeF
  rw [if_neg]
  rw [if_neg (by omega)]
  simp
theorem numI_take {q : List Int} {n : Nat} (hn : 4 ≤ n) : numI (q.take n) = numI q := by
  have e : ∀ i, i < 4 → (q.take n).getD i 0 = q.getD i 0 := fun i hi => by
    rw [List.getD_eq_getElem?_getD, List.getElem?_take_of_lt (by omega), List.getD_eq_getElem?_getD]
  rw [numI_is, numI_is, e 0 (by omega), e 1 (by omega), e 2 (by omega), e 3 (by omega)]
theorem nextF_ref {q : List Int} (hy : Byt q) {n : Nat} (hn : numI q + 9 = n) (hle : n ≤ q.length) :
    nextF q = if (decodeI (q.take n)).2.2 = 0 then some ((decodeI (q.take n)).1, (decodeI (q.take n)).2.1, n) else none := by
  have ⟨n0, n1⟩ := numI_bounds hy
  have hn9 : 9 ≤ n := by omega
  have htl : (q.take n).length = n := by rw [List.length_take]; omega
  have hti := numI_take (q := q) (n := n) (by omega)
  by_cases h8 : numI q ≤ 8192
  · have h1 : sizeF q = ((n : Int), true) := by unfold sizeF; rw [if_pos ⟨by omega, h8, by omega⟩, hn]
    have h2 : sizeF (q.take n) = ((n : Int), true) := by unfold sizeF; rw [hti, htl, if_pos ⟨by omega, h8, by omega⟩, hn]
    have h3 : decodeI (q.take n) = decI (q.take n) := by unfold decodeI; rw [h2, htl, if_pos ⟨rfl, rfl⟩]
    unfold nextF
    rw [h1, if_pos rfl, h3, Int.toNat_natCast]
  · have h1 : sizeF q = (0, false) := by unfold sizeF; rw [if_neg (by omega)]
    have h2 : sizeF (q.take n) = (0, false) := by unfold sizeF; rw [hti, htl, if_neg (by omega)]
    have h3 : decodeI (q.take n) = (0, [], 2) := by unfold decodeI; rw [h2, if_neg (by simp)]
    unfold nextF
    rw [h1, h3]; rfl
/-- The reference's frames in memory. -/
def cellsR (fs : List (Int × List Int)) : List Value := fs.flatMap fun t => [.int .i64 t.1, .string (strOfNums t.2)]
theorem cellsR_append (a b : List (Int × List Int)) : cellsR (a ++ b) = cellsR a ++ cellsR b := by unfold cellsR; rw [List.flatMap_append]
theorem cellsR_get : ∀ (xs : List (Int × List Int)) (i : Nat) (t : Int × List Int), xs[i]? = some t → (cellsR xs)[2 * i]? = some (.int .i64 t.1) ∧ (cellsR xs)[2 * i + 1]? = some (.string (strOfNums t.2))
  | [], _, _, h => by cases h
  | t :: xs, 0, t', h => by cases h; exact ⟨rfl, rfl⟩
  | t :: xs, i + 1, t', h => by
    have := cellsR_get xs i t' (by simpa using h)
    have e : cellsR (t :: xs) = .int .i64 t.1 :: .string (strOfNums t.2) :: cellsR xs := by unfold cellsR; rw [List.flatMap_cons]; rfl
    rw [e, show 2 * (i + 1) = 2 * i + 1 + 1 by omega]
    exact this
def Frr (w : World) (base : Nat) (v : Value) (fs : List (Int × List Int)) : Prop := w.ownsRow base 147 2 v fs.length (cellsR fs)
theorem refFrameInfo : (Tryz.prog.info? 147).map (fun i => (i.zero, i.size, i.bytes)) = some (some (.agg #[.int .i64 0, .string ⟨#[]⟩]), 2, 24) := by kernel_rfl
theorem ownsRow_keep {w w' : World} {base : Nat} {e : TypeId} {size n : Nat} {v : Value} {xs : List Value} (h : w.ownsRow base e size v n xs) (hb : Below w.heap.size w w') : w'.ownsRow base e size v n xs := by
  refine ⟨h.1, ?_⟩
  rcases h.2 with h1 | ⟨g, cap, cur, h1, h2, h3, h4⟩
  · exact .inl h1
  · refine .inr ⟨g, cap, cur, h1, h2, ?_, h4⟩
    rw [hb.block g ?_]
    · exact h3
    · by_cases k : g < w.heap.size
      · exact k
      · rw [Array.getElem?_eq_none (by omega)] at h3; cases h3
theorem ownsRow_slice {w : World} {base : Nat} {e : TypeId} {size n : Nat} {v : Value} {xs : List Value} (h : w.ownsRow base e size v n xs) : ∃ a c, v = .slice a n c := by
  rcases h.2 with ⟨rfl, h0⟩ | ⟨g, cap, cur, rfl, _⟩
  · exact ⟨none, 0, by rw [h0]⟩
  · exact ⟨_, _, rfl⟩
theorem wpList_append_ref {ops : Array Oper} {rest : List Oper} {o : Oper} {a : Act} {w : World} {Q : Exit → Act → World → Prop} (hgd : o.guard = none) (s x : Operand)
    (ho : o.op = .call { callee := .builtin .append, args := #[s, x], argTypes := #[143, 143] })
    (base : Nat) (v : Value) (xs : List (Int × List Int)) (k : Int) (p : List Int) (hs : a.eval s = v) (hown : Frr w base v xs) (b : Nat) (hx : a.eval x = .slice (some ⟨b, 0, none⟩) 1 1)
    (hb : Blk w b 147 [.int .i64 k, .string (strOfNums p)]) (hle : xs.length ≤ 1000000) (hbase : base ≤ w.heap.size)
    (h : ∀ v' w', Frr w' base v' (xs ++ [(k, p)]) → w.grownBy w' v.ownBlock → wpList Tryz.prog ops Q rest (a.put o.dst v') w') : wpList Tryz.prog ops Q (o :: rest) a w := by
  obtain ⟨i0, hi, hz0, hz1, hz2⟩ := info_parts refFrameInfo
  refine wpList_append_own w hgd s x 143 ho base 147 i0 (.agg #[.int .i64 0, .string ⟨#[]⟩]) 2 24 Tryz.underlying143 hi hz0 hz1 hz2 rfl (by decide) v xs.length (cellsR xs) hs hown ⟨b, 0, none⟩ 1 1 [.int .i64 k, .string (strOfNums p)] hx
    rfl (fun j y hy => by rw [Addr.add_mid, Nat.zero_add]; exact hb.cell hy) (fun y hy => by
      rcases List.mem_cons.1 hy with rfl | hy
      · rfl
      · rw [List.mem_singleton] at hy; subst hy; rfl) (by unfold maxLen; omega) (by omega) hbase ?_
  intro v' w' h1 h2 _
  refine h v' w' ?_ h2
  unfold Frr
  rw [List.length_append, cellsR_append]; exact h1
def RefScanR (w : World) (p : List Int) (e : Ending) (w' : World) : Prop := ∃ v fs m, e = .returned (.tuple #[v, .int .i64 (m : Nat)]) ∧ Scanned p fs m ∧ Frr w' w.heap.size v fs ∧ Below w.heap.size w w'

set_option maxRecDepth 100000 in
set_option maxHeartbeats 8000000 in
theorem refScan_any (p : List Int) (w : World) (hy : Byt p) (hl : p.length ≤ 100000) :
    Calls Tryz.prog 72 #[.string (strOfNums p)] w (RefScanR w p) := by
  have hsz : (strOfNums p).size = p.length := strOfNums_size p
  obtain ⟨S, hS⟩ : ∃ S, S = strOfNums p := ⟨_, rfl⟩
  rw [← hS] at hsz ⊢
  have HS := Lib.hid hS
  have HY := Lib.hid hy
  clear hS hy
  go_enter Tryz.func72, Tryz.ntmps72
  go_wp2_with fail
  go_loopw [4, 5, 6, 7, 8] (fun s4 s5 _ _ _ wr => ∃ (F : Nat) (fs : List (Int × List Int)) (g : Option Addr) (c : Nat), F ≤ p.length ∧ s5 = .int .i64 F ∧ s4 = .slice g fs.length c ∧ Frr wr w.heap.size s4 fs ∧ Below w.heap.size w wr ∧ fs.length ≤ F ∧
      ∀ fs' m, Scanned (p.drop F) fs' m → Scanned p (fs ++ fs') (F + m)) (fun _ s5 _ _ _ _ => p.length - (intOf s5).toNat)
  case atStart => exact ⟨0, [], none, 0, by omega, rfl, rfl, World.ownsRow_nil _ _ _ _, Below.refl _ _, by simp, fun fs m h => by simpa using h⟩
  case round =>
    obtain ⟨F, fs, g, c, hF, rfl, rfl, hO, hB, hxl, hSc⟩ := hrel
    have hyd := HY.out.drop F
    have hdl : (p.drop F).length = p.length - F := List.length_drop
    have hsub : IntKind.i64.wrap ((p.length : Int) - F) = p.length - F := IntWalk.i64_in _ (by omega)
    have HO := Lib.hid hO
    have HB := Lib.hid hB
    have HSC := Lib.hid hSc
    by_cases h9 : (p.length : Int) - F < 9
    · have HNX := Lib.hid (nextF_short (q := p.drop F) (.inl (by omega)))
      clear hO hB hSc hyd hdl
      go_wp2_with fail
      go_ret2
      exact ⟨_, fs, F, rfl, by have := HSC.out [] 0 (.stop HNX.out); simpa using this, HO.out, HB.out⟩
    · have cN := fun w' => number_any (p.drop F) hyd (by omega) w'
      have ⟨n0, n1⟩ := numI_bounds hyd
      obtain ⟨n, hn⟩ : ∃ n : Nat, numI (p.drop F) = n := ⟨(numI (p.drop F)).toNat, by omega⟩
      have hs1 : ∀ w, (Instr.slice 9 (.string S) (some (.int .i64 F)) none none).run Tryz.prog w = .ok (.string (strOfNums (p.drop F))) w := fun w => by rw [HS.out]; exact str_from p F hF w
      have hnb : n ≤ 4294967295 := by omega
      rw [hn] at cN
      have CN := Lib.hid cN
      by_cases hbig : (p.length : Int) - F < (n : Int) + 9
      · have HNX := Lib.hid (nextF_short (q := p.drop F) (.inr (by omega)))
        clear hO hB hSc hyd hdl cN hn
        go_wp2_with fail
        refine (CN.out _).mono ?_; rintro e w1 ⟨rfl, k1, hk1⟩
        have HB1 : Hid (Below w.heap.size w w1) := by rw [hk1]; exact Below.drewN HB.out _
        have HO1 : Hid (Frr w1 w.heap.size (.slice g fs.length c) fs) := by rw [hk1]; exact HO.out
        clear hk1
        go_wp2_with fail
        go_ret2
        exact ⟨_, fs, F, rfl, by have := HSC.out [] 0 (.stop HNX.out); simpa using this, HO1.out, HB1.out⟩
      · have hle : n + 9 ≤ (p.drop F).length := by omega
        have hnx := nextF_ref hyd (n := n + 9) (by omega) hle
        have cD := fun w' => refDecode_any ((p.drop F).take (n + 9)) w' (hyd.take _) (by rw [List.length_take]; omega)
        have hs2 : ∀ w, (Instr.slice 9 (.string S) (some (.int .i64 F)) (some (.int .i64 ((F : Int) + ((n : Int) + 9)))) none).run Tryz.prog w = .ok (.string (strOfNums ((p.drop F).take (n + 9)))) w := fun w => by
          have := str_slice p F (F + (n + 9)) (by omega) (by omega) w
          rw [show F + (n + 9) - F = n + 9 by omega] at this
          rw [HS.out]
          rwa [show ((F + (n + 9) : Nat) : Int) = (F : Int) + ((n : Int) + 9) by omega] at this
        generalize strOfNums ((p.drop F).take (n + 9)) = T at *
        generalize strOfNums (p.drop F) = D at *
        generalize decodeI ((p.drop F).take (n + 9)) = r at *
        obtain ⟨rk, rp, rc⟩ := r
        simp only at cD hnx
        have HNX := Lib.hid hnx
        have CD := Lib.hid cD
        clear hO hB hSc hyd hdl cN hn hle hnx cD
        go_wp2_with fail
        refine (CN.out _).mono ?_; rintro e w1 ⟨rfl, k1, hk1⟩
        have HB1 : Hid (Below w.heap.size w w1) := by rw [hk1]; exact Below.drewN HB.out _
        have HO1 : Hid (Frr w1 w.heap.size (.slice g fs.length c) fs) := by rw [hk1]; exact HO.out
        clear hk1
        go_wp2_with fail
        refine (CD.out _).mono ?_; rintro e w2 ⟨rfl, hb2⟩
        have HB2 := Lib.hid (HB1.out.trans (hb2.mono HB1.out.size))
        have HO2 := Lib.hid (show Frr w2 w.heap.size (.slice g fs.length c) fs from ownsRow_keep HO1.out hb2)
        clear hb2
        by_cases hrc : rc = 0
        · rw [if_pos hrc] at HNX
          subst hrc
          go_upto_region 9 with fail
          refine wp_world fun w5 hw5 => ?_
          have hb25 : Below w2.heap.size w2 w5 := by rw [hw5]; exact (Below.refl _ _).alloc (Nat.le_refl _) _
          have hk5 : Blk w5 w2.heap.size 147 [.int .i64 rk, .string (strOfNums rp)] := by rw [hw5]; exact Blk.new w2 147 [.int .i64 rk, .string (strOfNums rp)]
          have c0 := hk5.cell (i := 0) rfl
          have c1 := hk5.cell (i := 1) rfl
          have HFR : Hid (Frr (w5.alloc (.cells #[.int .i64 rk, .string (strOfNums rp)] 147)) w.heap.size (.slice g fs.length c) fs) := ownsRow_keep (ownsRow_keep HO2.out hb25) ((Below.refl _ _).alloc (Nat.le_refl _) _)
          have HNB : Hid (Blk (w5.alloc (.cells #[.int .i64 rk, .string (strOfNums rp)] 147)) w5.heap.size 147 [.int .i64 rk, .string (strOfNums rp)]) := Blk.new w5 147 [.int .i64 rk, .string (strOfNums rp)]
          have hb5 := HB2.out.trans (hb25.mono HB2.out.size)
          have hba : Below w.heap.size w (w5.alloc (.cells #[.int .i64 rk, .string (strOfNums rp)] 147)) := hb5.alloc hb5.size _
          have HBA := Lib.hid hba
          clear hw5 hb25 hk5 hb5 hba
          go_wp2_with (with_reducible refine wpList_append_ref rfl (.tmp 43) (.tmp 45) rfl w.heap.size (.slice g fs.length c) fs rk rp ?_ HFR.out w5.heap.size ?_ HNB.out ?_ HBA.out.size ?_)
          case refine_1 => rfl
          case refine_2 => rfl
          case refine_3 => omega
          intro v6 w6 hF6 hg6
          have hB6 : Below w.heap.size w w6 := HBA.out.trans ((Below.refl w.heap.size _).grown hg6 HBA.out.size fun k hk => (World.ownsRow.lt HFR.out k hk).1)
          obtain ⟨g6, c6, hv6⟩ := ownsRow_slice hF6
          have hl6 : (fs ++ [(rk, rp)]).length = fs.length + 1 := by simp
          obtain ⟨ys, hys⟩ : ∃ ys, ys = fs ++ [(rk, rp)] := ⟨_, rfl⟩
          rw [← hys] at hF6 hv6 hl6
          subst hv6
          have HYS := Lib.hid hys
          have HF6 := Lib.hid hF6
          have HB6 := Lib.hid hB6
          have HL6 := Lib.hid hl6
          clear hF6 hg6 hB6 hl6 hys c0 c1 HFR HNB HBA
          go_wp2_with fail
          go_roundw
          case rel => exact ⟨F + (n + 9), ys, g6, c6, by omega, by go_num, rfl, HF6.out, HB6.out, by rw [HL6.out]; omega, fun fs' m h => by
            have := HSC.out ((rk, rp) :: fs') (n + 9 + m) (.step HNX.out (by rw [List.drop_drop]; exact h))
            rw [HYS.out, List.append_assoc, Nat.add_assoc]
            exact this⟩
          case measure => simp [intOf]; omega
        · rw [if_neg hrc] at HNX
          have hrn : (rc == 0) = false := by simpa using hrc
          clear hrc
          go_wp2_with fail
          go_ret2
          exact ⟨_, fs, F, rfl, by have := HSC.out [] 0 (.stop HNX.out); simpa using this, ownsRow_keep HO2.out ((Below.refl _ _).alloc (Nat.le_refl _) _), HB2.out.alloc HB2.out.size _⟩
end Go.Proofs.YtigbgajelkknbaaGreatDoor.Fr
namespace Go.Proofs.YtigbgajelkknbaaGreatDoor.Fr
open Go.RowKit
set_option maxRecDepth 100000

/-- The bytes of the frames of these payloads, the kinds from the i-th on. -/
def rowF : Nat → List (List Int) → List Int
  | _, [] => []
  | i, p :: ps => frameI ((i % 9 : Nat) + 1) p ++ rowF (i + 1) ps
def framesF : Nat → List (List Int) → List (Int × List Int)
  | _, [] => []
  | i, p :: ps => (((i % 9 : Nat) + 1 : Int), p) :: framesF (i + 1) ps
theorem framesF_length : ∀ (ps : List (List Int)) (i : Nat), (framesF i ps).length = ps.length
  | [], _ => rfl
  | p :: ps, i => by rw [framesF, List.length_cons, framesF_length ps, List.length_cons]
theorem framesF_get : ∀ (ps : List (List Int)) (i t : Nat) (p : List Int), ps[t]? = some p → (framesF i ps)[t]? = some ((((i + t) % 9 : Nat) + 1 : Int), p)
  | [], _, _, _, h => by cases h
  | p :: ps, i, 0, q, h => by cases h; rfl
  | p :: ps, i, t + 1, q, h => by
    have := framesF_get ps (i + 1) t q (by simpa using h)
    rw [framesF, List.getElem?_cons_succ, this, show i + 1 + t = i + (t + 1) by omega]
theorem rowF_append : ∀ (ps qs : List (List Int)) (i : Nat), rowF i (ps ++ qs) = rowF i ps ++ rowF (i + ps.length) qs
  | [], qs, i => by simp [rowF]
  | p :: ps, qs, i => by
    rw [List.cons_append, rowF, rowF, rowF_append ps qs, List.append_assoc, List.length_cons, show i + 1 + ps.length = i + (ps.length + 1) by omega]
theorem rowF_take_succ (ps : List (List Int)) (t : Nat) (h : t < ps.length) : rowF 0 (ps.take (t + 1)) = rowF 0 (ps.take t) ++ frameI ((t % 9 : Nat) + 1) (ps.getD t []) := by
  rw [List.take_succ_eq_append_getElem h, rowF_append, List.length_take, Nat.zero_add, show min t ps.length = t by omega, List.getD_eq_getElem?_getD, List.getElem?_eq_getElem h]
  simp [rowF]
theorem rowF_len_succ (ps : List (List Int)) (t : Nat) (h : t < ps.length) : (rowF 0 (ps.take (t + 1))).length = (rowF 0 (ps.take t)).length + (ps.getD t []).length + 9 := by
  rw [rowF_take_succ ps t h, List.length_append, frameI_length]; omega
theorem rowF_le : ∀ (ps : List (List Int)) (i : Nat), ps.flatten.length + 9 * ps.length = (rowF i ps).length
  | [], _ => rfl
  | p :: ps, i => by
    rw [rowF, List.length_append, frameI_length, List.flatten_cons, List.length_append, List.length_cons, ← rowF_le ps (i + 1)]; omega
/-- Payloads that may be written. -/
def Fit (ps : List (List Int)) : Prop := ∀ p ∈ ps, Byt p ∧ p.length ≤ 8192
theorem rowF_byt : ∀ {ps : List (List Int)} (i : Nat), Fit ps → Byt (rowF i ps)
  | [], _, _ => Byt.nil
  | p :: ps, i, h => (frameI_byt (by omega) (by omega) (h p (by simp)).1).append (rowF_byt (i + 1) fun q hq => h q (by simp [hq]))
theorem nextF_frame {k : Int} {p x : List Int} (k0 : 1 ≤ k) (k1 : k ≤ 9) (hy : Byt p) (hl : p.length ≤ 8192) (hx : Byt x) : nextF (frameI k p ++ x) = some (k, p, p.length + 9) := by
  have hlen := frameI_length k p
  have hn : numI (frameI k p ++ x) = p.length := by
    unfold frameI
    rw [List.append_assoc]
    exact numI_four _ (by omega) (by omega) _
  rw [nextF_ref ((frameI_byt k0 k1 hy).append hx) (n := p.length + 9) (by rw [hn]; omega) (by rw [List.length_append]; omega)]
  rw [List.take_append_of_le_length (by omega), List.take_of_length_le (by omega), decodeI_frame k0 k1 hy hl, if_pos rfl]
theorem nextF_cut {k : Int} {p : List Int} {c : Nat} (hl : p.length ≤ 8192) (hc : c < p.length + 9) : nextF ((frameI k p).take c) = none := by
  have hlen := frameI_length k p
  by_cases h9 : c < 9
  · exact nextF_short (.inl (by rw [List.length_take]; omega))
  · refine nextF_short (.inr ?_)
    rw [numI_take (by omega), List.length_take]
    have hn : numI (frameI k p) = p.length := numI_four _ (by omega) (by omega) _
    rw [hn]; omega
/-- The front of a row that is cut off: the frames that stand whole ahead of the cut. -/
theorem row_cut : ∀ (ps : List (List Int)) (i c : Nat), Fit ps → ∃ j, j ≤ ps.length ∧ Scanned ((rowF i ps).take c) (framesF i (ps.take j)) (rowF i (ps.take j)).length ∧
    ∀ t, t < ps.length → ((rowF i (ps.take (t + 1))).length ≤ c ↔ t < j)
  | [], i, c, _ => ⟨0, Nat.le_refl _, by
      show Scanned (List.take c []) [] 0
      rw [List.take_nil]
      exact .stop (nextF_short (.inl (by simp))), fun t ht => by simp at ht⟩
  | p :: ps, i, c, h => by
    have hp := h p (by simp)
    have hps : Fit ps := fun q hq => h q (by simp [hq])
    have hlen := frameI_length ((i % 9 : Nat) + 1) p
    have k0 : (1 : Int) ≤ (i % 9 : Nat) + 1 := by omega
    have k1 : ((i % 9 : Nat) : Int) + 1 ≤ 9 := by omega
    by_cases hc : p.length + 9 ≤ c
    · obtain ⟨j, hj, hs, ht⟩ := row_cut ps (i + 1) (c - (p.length + 9)) hps
      refine ⟨j + 1, by rw [List.length_cons]; omega, ?_, fun t htl => ?_⟩
      · rw [List.take_succ_cons, rowF, rowF, framesF, List.take_append, List.take_of_length_le (by omega), hlen, List.length_append, hlen]
        have hx : Byt ((rowF (i + 1) ps).take (c - (p.length + 9))) := (rowF_byt (i + 1) hps).take _
        exact .step (nextF_frame k0 k1 hp.1 hp.2 hx) (by
          rw [List.drop_append_of_le_length (by omega), List.drop_of_length_le (by omega)]
          exact hs)
      · cases t with
        | zero =>
          simp only [List.take_succ_cons, List.take_zero, rowF, List.append_nil]
          constructor
          · intro _; omega
          · intro _; omega
        | succ t =>
          rw [List.take_succ_cons, rowF, List.length_append, hlen]
          have := ht t (by simpa using htl)
          constructor
          · intro h1
            have := this.1 (by omega)
            omega
          · intro h1
            have := this.2 (by omega)
            omega
    · refine ⟨0, Nat.zero_le _, ?_, fun t htl => ?_⟩
      · show Scanned ((frameI ((i % 9 : Nat) + 1) p ++ rowF (i + 1) ps).take c) [] 0
        rw [List.take_append_of_le_length (by omega)]
        exact .stop (nextF_cut hp.2 (by omega))
      · rw [List.take_succ_cons, rowF, List.length_append, hlen]
        constructor
        · intro h1; omega
        · intro h1; omega
end Go.Proofs.YtigbgajelkknbaaGreatDoor.Fr
