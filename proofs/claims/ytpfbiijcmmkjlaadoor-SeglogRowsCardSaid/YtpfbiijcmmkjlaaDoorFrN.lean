/- 'Encode' of parts that were laid just before; texts that differ. The reference's 'Decode'. A frame of which one byte is another one isn't read. Plain numbers. -/
import Derived.Test.YtpfbiijcmmkjlaaDoorFrK
namespace Go.Proofs.YtpfbiijcmmkjlaaDoor.Fr
open Go.RowKit
set_option maxRecDepth 100000

theorem str_ne {a b : List Int} (ha : Byt a) (hb : Byt b) (h : a ≠ b) : ((strOfNums a).toList == (strOfNums b).toList) = false := by
  rw [beq_eq_false_iff_ne]
  intro e
  rw [ByteArray.toList_eq, ByteArray.toList_eq] at e
  apply h
  apply strOfNums_inj ha hb
  apply ByteArray.ext
  exact Array.toList_inj.1 e
/-- Two frames differ, if their kinds or payloads do. -/
theorem frame_ne {k k' : Int} {p q : List Int} (h0 : 1 ≤ k) (h1 : k ≤ 9) (h2 : 1 ≤ k') (h3 : k' ≤ 9) (hp : Byt p) (hq : Byt q) (lp : p.length ≤ 8192) (lq : q.length ≤ 8192) (h : k ≠ k' ∨ p ≠ q) : frameI k p ≠ frameI k' q := by
  intro e
  have a := decodeI_frame h0 h1 hp lp
  have b := decodeI_frame h2 h3 hq lq
  rw [e, b] at a
  injection a with a1 a2
  injection a2 with a2 a3
  rcases h with h | h
  · exact h a1.symm
  · exact h a2.symm
theorem enc_one (k : Int) {v : Value} {p : List Int} {w0 : World} (wx : World) (h0 : 1 ≤ k) (h1 : k ≤ 9) (hb : BytesE w0 v p) (hy : Byt p) (hl : p.length ≤ 8192) (hbw : Below w0.heap.size w0 wx) :
    Calls Tryd.prog 21 #[.int .i64 k, .slice (some ⟨wx.heap.size, 0, none⟩) 1 1] (wx.alloc (.cells #[v] 32)) fun e w' => ∃ v', e = .returned (.tuple #[v', .int .i64 0]) ∧ OwnB w' wx.heap.size v' (frameI k p) ∧ Below wx.heap.size wx w' := by
  have hk : Blk (wx.alloc (.cells #[v] 32)) wx.heap.size 32 [v] := Blk.new wx 32 [v]
  have hB : Below wx.heap.size wx (wx.alloc (.cells #[v] 32)) := (Below.refl _ _).alloc (Nat.le_refl _) _
  have hB0 : Below w0.heap.size w0 (wx.alloc (.cells #[v] 32)) := hbw.trans (hB.mono hbw.size)
  have := encode_any k (.slice (some ⟨wx.heap.size, 0, none⟩) 1 1) [p] (wx.alloc (.cells #[v] 32)) h0 h1 (.inr ⟨wx.heap.size, 0, 1, rfl, hk.lt, fun i hi => by
    have : i = 0 := by simpa using hi
    subst this
    exact ⟨_, hk.cell rfl, hb.below hB0⟩⟩) (by simp) (fun i hi => by
    have : i = 0 := by simpa using hi
    subst this
    exact ⟨by show p.length < _; omega, hy⟩) (by simpa using hl)
  rw [show [p].flatten = p by simp] at this
  exact this.mono fun e w' ⟨v', he, ho, hb'⟩ => ⟨v', he, ho.mono hB.size, hB.trans (hb'.mono hB.size)⟩
theorem enc_three (k : Int) {v1 v2 v3 : Value} {p1 p2 p3 : List Int} {w0 : World} (wx : World) (h0 : 1 ≤ k) (h1 : k ≤ 9) (hb1 : BytesE w0 v1 p1) (hb2 : BytesE w0 v2 p2) (hb3 : BytesE w0 v3 p3) (hy1 : Byt p1) (hy2 : Byt p2) (hy3 : Byt p3) (hl : p1.length + p2.length + p3.length ≤ 8192) (hbw : Below w0.heap.size w0 wx) :
    Calls Tryd.prog 21 #[.int .i64 k, .slice (some ⟨wx.heap.size, 0, none⟩) 3 3] (wx.alloc (.cells #[v1, v2, v3] 32)) fun e w' => ∃ v', e = .returned (.tuple #[v', .int .i64 0]) ∧ OwnB w' wx.heap.size v' (frameI k (p1 ++ p2 ++ p3)) ∧ Below wx.heap.size wx w' := by
  have hk : Blk (wx.alloc (.cells #[v1, v2, v3] 32)) wx.heap.size 32 [v1, v2, v3] := Blk.new wx 32 [v1, v2, v3]
  have hB : Below wx.heap.size wx (wx.alloc (.cells #[v1, v2, v3] 32)) := (Below.refl _ _).alloc (Nat.le_refl _) _
  have hB0 : Below w0.heap.size w0 (wx.alloc (.cells #[v1, v2, v3] 32)) := hbw.trans (hB.mono hbw.size)
  have three : ∀ i, i < 3 → i = 0 ∨ i = 1 ∨ i = 2 := by omega
  have := encode_any k (.slice (some ⟨wx.heap.size, 0, none⟩) 3 3) [p1, p2, p3] (wx.alloc (.cells #[v1, v2, v3] 32)) h0 h1 (.inr ⟨wx.heap.size, 0, 3, rfl, hk.lt, fun i hi => by
    rcases three i hi with rfl | rfl | rfl
    · exact ⟨_, hk.cell (i := 0) rfl, hb1.below hB0⟩
    · exact ⟨_, hk.cell (i := 1) rfl, hb2.below hB0⟩
    · exact ⟨_, hk.cell (i := 2) rfl, hb3.below hB0⟩⟩) (by simp) (fun i hi => by
    rcases three i hi with rfl | rfl | rfl
    · exact ⟨by show p1.length < _; omega, hy1⟩
    · exact ⟨by show p2.length < _; omega, hy2⟩
    · exact ⟨by show p3.length < _; omega, hy3⟩) (by simp; omega)
  rw [show [p1, p2, p3].flatten = p1 ++ p2 ++ p3 by simp] at this
  exact this.mono fun e w' ⟨v', he, ho, hb'⟩ => ⟨v', he, ho.mono hB.size, hB.trans (hb'.mono hB.size)⟩
/-- A number turned into a kind. -/
theorem kind_of (x : Int) : ∃ q : Int, IntKind.u64.wrap x % 9 = q ∧ 0 ≤ q ∧ q < 9 := ⟨_, rfl, Int.emod_nonneg _ (by omega), Int.emod_lt_of_pos _ (by omega)⟩
theorem u64_nonneg (x : Int) : 0 ≤ IntKind.u64.wrap x := by rw [IntKind.wrap_u64]; omega
theorem two_of : ∀ zs : List Int, zs.length = 2 → ∃ x y, zs = [x, y]
  | [x, y], _ => ⟨x, y, rfl⟩
end Go.Proofs.YtpfbiijcmmkjlaaDoor.Fr
namespace Go.Proofs.YtpfbiijcmmkjlaaDoor.Fr
open Go.RowKit

theorem str_cut (p : List Int) (i j : Nat) : (strOfNums p).extract i j = strOfNums ((p.drop i).take (j - i)) := by
  apply ByteArray.ext
  simp [strOfNums, List.map_take, List.map_drop, List.extract_eq_take_drop]
theorem str_slice (p : List Int) (i j : Nat) (h1 : i ≤ j) (h2 : j ≤ p.length) (w : World) :
    (Instr.slice 9 (.string (strOfNums p)) (some (.int .i64 i)) (some (.int .i64 j)) none).run Tryd.prog w = .ok (.string (strOfNums ((p.drop i).take (j - i)))) w := by
  rw [run_slice_string w 9 _ .i64 .i64 i j Tryd.underlying9 (by omega) (by omega) (by rw [strOfNums_size]; omega)]
  simp only [Int.toNat_natCast]
  rw [str_cut]
theorem str_from (p : List Int) (i : Nat) (h : i ≤ p.length) (w : World) :
    (Instr.slice 9 (.string (strOfNums p)) (some (.int .i64 i)) none none).run Tryd.prog w = .ok (.string (strOfNums (p.drop i))) w := by
  rw [run_slice_string_from_if w 9 _ .i64 i Tryd.underlying9, if_pos ⟨by omega, by rw [strOfNums_size]; omega⟩]
  simp only [Int.toNat_natCast]
  rw [str_cut, strOfNums_size, List.take_of_length_le (by rw [List.length_drop]; omega)]
/-- Four bytes are a number's, if they make it. -/
theorem four_iff {q : List Int} (hy : Byt q) (hl : q.length = 4) (n : Nat) (hn : n < 4294967296) : fourI n = q ↔ (n : Int) = numI q := by
  constructor
  · intro h
    have := numI_four (n : Int) (by omega) (by omega) []
    rw [List.append_nil, h] at this
    exact this.symm
  · intro h
    match q, hl with
    | [a, b, c, d], _ =>
      have ha := hy a (by simp)
      have hb := hy b (by simp)
      have hc := hy c (by simp)
      have hd := hy d (by simp)
      rw [numI_is] at h
      simp only [List.getD_cons_zero, List.getD_cons_succ] at h
      unfold fourI
      rw [show (n : Int) % 256 = a by omega, show (n : Int) / 256 % 256 = b by omega, show (n : Int) / 65536 % 256 = c by omega, show (n : Int) / 16777216 % 256 = d by omega]

end Go.Proofs.YtpfbiijcmmkjlaaDoor.Fr
namespace Go.Proofs.YtpfbiijcmmkjlaaDoor.Fr
open Go.RowKit

theorem m1_odd {n : Nat} (h : n < 4294967296) (ho : n % 2 = 1) : 2147483648 ≤ m1 n := by
  unfold m1
  rw [if_pos ho]
  refine Nat.ge_two_pow_of_testBit (i := 31) ?_
  rw [Nat.testBit_xor, Nat.testBit_lt_two_pow (show n / 2 < 2 ^ 31 by omega)]
  decide
theorem m1_inj {a b : Nat} (ha : a < 4294967296) (hb : b < 4294967296) (h : m1 a = m1 b) : a = b := by
  rcases Nat.mod_two_eq_zero_or_one a with pa | pa <;> rcases Nat.mod_two_eq_zero_or_one b with pb | pb
  · unfold m1 at h
    rw [if_neg (by omega), if_neg (by omega)] at h
    omega
  · have := m1_odd hb pb
    rw [← h] at this
    unfold m1 at this
    rw [if_neg (by omega)] at this
    omega
  · have := m1_odd ha pa
    rw [h] at this
    unfold m1 at this
    rw [if_neg (by omega)] at this
    omega
  · unfold m1 at h
    rw [if_pos pa, if_pos pb] at h
    have e : a / 2 = b / 2 := by
      have := congrArg (· ^^^ 2197175160) h
      simpa [Nat.xor_assoc] using this
    omega
theorem mv_inj {a b : Nat} (ha : a < 4294967296) (hb : b < 4294967296) : ∀ k, mv k a = mv k b → a = b
  | 0, h => h
  | k + 1, h => mv_inj ha hb k (m1_inj (mv_lt ha k) (mv_lt hb k) h)
theorem step_lt {c : Nat} (hc : c < 4294967296) {x : Int} (h0 : 0 ≤ x) (h1 : x ≤ 255) : c ^^^ x.toNat < 4294967296 := Nat.xor_lt_two_pow (n := 32) hc (by omega)
theorem crcN_inj : ∀ (q : List Int) {a b : Nat}, Byt q → a < 4294967296 → b < 4294967296 → crcN a q = crcN b q → a = b
  | [], _, _, _, _, _, h => h
  | x :: q, a, b, hq, ha, hb, h => by
    have hx := hq x (by simp)
    have h1 := crcN_inj q (fun z hz => hq z (by simp [hz])) (m8_lt (step_lt ha hx.1 hx.2)) (m8_lt (step_lt hb hx.1 hx.2)) h
    have h2 := mv_inj (step_lt ha hx.1 hx.2) (step_lt hb hx.1 hx.2) 8 h1
    have := congrArg (· ^^^ x.toNat) h2
    simpa [Nat.xor_assoc] using this
/-- Bytes that differ in one place have sums that differ. -/
theorem sumN_set {p : List Int} (hp : Byt p) {i : Nat} (hi : i < p.length) {y : Int} (h0 : 0 ≤ y) (h1 : y ≤ 255) (hne : y ≠ p.getD i 0) : sumN (p.set i y) ≠ sumN p := by
  intro h
  have hx := hp.getD i
  have e1 : p = p.take i ++ [p.getD i 0] ++ p.drop (i + 1) := by
    rw [List.getD_eq_getElem?_getD, List.getElem?_eq_getElem hi, Option.getD_some, List.append_assoc, List.singleton_append, List.getElem_cons_drop, List.take_append_drop]
  have e2 : p.set i y = p.take i ++ [y] ++ p.drop (i + 1) := by
    rw [List.set_eq_take_append_cons_drop, if_pos hi, List.append_assoc]; rfl
  have hc := crcN_lt (c := 4294967295) (by omega) (p.take i) (hp.take i)
  have k1 : crcN 4294967295 (p.set i y) = crcN 4294967295 p := by
    unfold sumN at h
    have := congrArg (· ^^^ 4294967295) h
    simpa [Nat.xor_assoc] using this
  rw [e2] at k1
  rw [show crcN 4294967295 p = crcN 4294967295 (p.take i ++ [p.getD i 0] ++ p.drop (i + 1)) by rw [← e1], crcN_append, crcN_append, crcN_append, crcN_append] at k1
  generalize crcN 4294967295 (p.take i) = c at *
  have k2 := crcN_inj _ (hp.drop (i + 1)) (m8_lt (step_lt hc h0 h1)) (m8_lt (step_lt hc hx.1 hx.2)) k1
  have k3 := mv_inj (step_lt hc h0 h1) (step_lt hc hx.1 hx.2) 8 k2
  have k4 : y.toNat = (p.getD i 0).toNat := by
    have := congrArg (c ^^^ ·) k3
    simpa [← Nat.xor_assoc] using this
  omega
theorem Byt.set {p : List Int} (hp : Byt p) (i : Nat) {y : Int} (h0 : 0 ≤ y) (h1 : y ≤ 255) : Byt (p.set i y) := fun z hz => by
  rcases List.mem_or_eq_of_mem_set hz with h | rfl
  · exact hp z h
  · exact ⟨h0, h1⟩
theorem set_self {p : List Int} {i : Nat} (hi : i < p.length) : p.set i (p.getD i 0) = p := by
  rw [List.getD_eq_getElem?_getD, List.getElem?_eq_getElem hi, Option.getD_some, List.set_getElem_self]
/-- What is read of a frame of which one byte behind the length is another one. -/
theorem turned_is {k : Int} {p : List Int} (k0 : 1 ≤ k) (k1 : k ≤ 9) (hy : Byt p) (hl : p.length ≤ 8192) {i : Nat} (hi : 4 ≤ i) (hi2 : i < p.length + 9) {y : Int} (y0 : 0 ≤ y) (y1 : y ≤ 255) (hne : y ≠ (frameI k p).getD i 0) :
    decodeI ((frameI k p).set i y) = (0, [], 6) ∨ i = 4 ∧ decodeI ((frameI k p).set i y) = (0, [], 1) := by
  have hlen := frameI_length k p
  obtain ⟨j, rfl⟩ : ∃ j, i = 4 + j := ⟨i - 4, by omega⟩
  have hib := innerI_byt k0 k1 hy
  have hil : (innerI k p).length = p.length + 1 := rfl
  obtain ⟨q, hq⟩ : ∃ q, q = innerI k p ++ fourI (sumN (innerI k p) : Nat) := ⟨_, rfl⟩
  have hfq : frameI k p = fourI p.length ++ q := by unfold frameI; rw [hq]
  have hql : q.length = p.length + 5 := by rw [hq, List.length_append, hil, fourI_length]
  have hset : (frameI k p).set (4 + j) y = fourI p.length ++ q.set j y := by
    rw [hfq, List.set_append_right _ _ (by show 4 ≤ 4 + j; omega)]
    congr 2
    show 4 + j - 4 = j
    omega
  have hsl : (fourI (p.length : Int) ++ q.set j y).length = p.length + 9 := by rw [List.length_append, List.length_set, hql, fourI_length]; omega
  have hn : numI (fourI (p.length : Int) ++ q.set j y) = p.length := numI_four _ (by omega) (by omega) _
  have hz : sizeF (fourI (p.length : Int) ++ q.set j y) = ((p.length : Int) + 9, true) := by
    unfold sizeF; rw [hn, hsl, if_pos (by omega)]
  have hd4 : (fourI (p.length : Int) ++ q.set j y).drop 4 = q.set j y := rfl
  have hfg : (frameI k p).getD (4 + j) 0 = q.getD j 0 := by
    rw [hfq, List.getD_eq_getElem?_getD, List.getElem?_append_right (by show 4 ≤ _; omega), List.getD_eq_getElem?_getD]
    congr 2
    show 4 + j - 4 = j
    omega
  rw [hfg] at hne
  rw [hset]
  unfold decodeI
  rw [hz, if_pos ⟨rfl, by rw [hsl]; show (p.length : Int) + 9 = _; omega⟩]
  unfold decI
  have hg4 : (fourI (p.length : Int) ++ q.set j y).getD 4 0 = (q.set j y).getD 0 0 := rfl
  rw [hg4, hd4, hsl]
  have hdl : (fourI (p.length : Int) ++ q.set j y).drop (p.length + 9 - 4) = (q.set j y).drop (p.length + 1) := by
    rw [show p.length + 9 - 4 = 4 + (p.length + 1) by omega, ← List.drop_drop]; rfl
  rw [hdl]
  by_cases hj : j < p.length + 1
  · -- the kind or the payload
    have hqs : q.set j y = (innerI k p).set j y ++ fourI (sumN (innerI k p) : Nat) := by rw [hq, List.set_append_left _ _ (by rw [hil]; exact hj)]
    have hsil : ((innerI k p).set j y).length = p.length + 1 := by rw [List.length_set]; exact hil
    have ht : (q.set j y).take (p.length + 9 - 8) = (innerI k p).set j y := by
      rw [hqs, List.take_append_of_le_length (by omega), List.take_of_length_le (by omega)]
    have hd : (q.set j y).drop (p.length + 1) = fourI (sumN (innerI k p) : Nat) := by
      rw [hqs, List.drop_append_of_le_length (by omega), List.drop_of_length_le (by omega)]; rfl
    have hqg : q.getD j 0 = (innerI k p).getD j 0 := by
      rw [hq, List.getD_eq_getElem?_getD, List.getElem?_append_left (by omega), List.getD_eq_getElem?_getD]
    rw [hqg] at hne
    have hS := sumN_lt hib
    have hns : numI (fourI (sumN (innerI k p) : Nat)) = (sumN (innerI k p) : Nat) := by
      have := numI_four ((sumN (innerI k p) : Nat) : Int) (by omega) (by omega) []
      rwa [List.append_nil] at this
    have hsne := sumN_set hib (by omega : j < (innerI k p).length) y0 y1 hne
    rw [ht, hd, hns]
    by_cases hkk : 1 ≤ (q.set j y).getD 0 0 ∧ (q.set j y).getD 0 0 ≤ 9
    · rw [if_pos hkk, if_neg (by omega)]
      exact .inl rfl
    · rw [if_neg hkk]
      refine .inr ⟨?_, rfl⟩
      by_cases h0 : j = 0
      · omega
      · exfalso
        apply hkk
        have : (q.set j y).getD 0 0 = k := by
          rw [List.getD_eq_getElem?_getD, List.getElem?_set_ne (by omega), hq]; rfl
        rw [this]; exact ⟨k0, k1⟩
  · -- the sum
    obtain ⟨m, rfl⟩ : ∃ m, j = p.length + 1 + m := ⟨j - (p.length + 1), by omega⟩
    have hqs : q.set (p.length + 1 + m) y = innerI k p ++ (fourI (sumN (innerI k p) : Nat)).set m y := by
      rw [hq, List.set_append_right _ _ (by omega), hil]
      congr 2
      omega
    have ht : (q.set (p.length + 1 + m) y).take (p.length + 9 - 8) = innerI k p := by
      rw [hqs, List.take_append_of_le_length (by omega), List.take_of_length_le (by omega)]
    have hd : (q.set (p.length + 1 + m) y).drop (p.length + 1) = (fourI (sumN (innerI k p) : Nat)).set m y := by
      rw [hqs, List.drop_append_of_le_length (by omega), List.drop_of_length_le (by omega)]; rfl
    have hk0 : (q.set (p.length + 1 + m) y).getD 0 0 = k := by
      rw [List.getD_eq_getElem?_getD, List.getElem?_set_ne (by omega), hq]; rfl
    have hS := sumN_lt hib
    have hqg : q.getD (p.length + 1 + m) 0 = (fourI (sumN (innerI k p) : Nat)).getD m 0 := by
      rw [hq, List.getD_eq_getElem?_getD, List.getElem?_append_right (by omega), List.getD_eq_getElem?_getD, hil]
      congr 2
      omega
    rw [hqg] at hne
    rw [ht, hd, hk0, if_pos ⟨k0, k1⟩, if_neg]
    · exact .inl rfl
    · intro h
      have hfour : (fourI (sumN (innerI k p) : Nat)).set m y = fourI (sumN (innerI k p) : Nat) :=
        ((four_iff ((fourI_byt _).set m y0 y1) (by rw [List.length_set]; rfl) _ hS).2 h).symm
      apply hne
      have hm4 : m < 4 := by omega
      have := congrArg (fun l : List Int => l.getD m 0) hfour
      rw [← this, List.getD_eq_getElem?_getD, List.getElem?_set_self (by rw [fourI_length]; exact hm4)]
      rfl
end Go.Proofs.YtpfbiijcmmkjlaaDoor.Fr
