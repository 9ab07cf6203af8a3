/- Package frame: a number out of bytes; a kind; the size of parts; the sum. -/
import Derived.Test.YtpfbiijcmmkjlaaDoorFrA
namespace Go.Proofs.YtpfbiijcmmkjlaaDoor.Fr
open Go.RowKit
set_option maxRecDepth 100000

/-- A slice of a slice of bytes. -/
theorem slice_cap {w0 : World} {a : Option Addr} {c : Nat} {p : List Int} (h : BytesE w0 (.slice a p.length c) p) : p.length ≤ c := by
  rcases h with (⟨h1, h2⟩ | ⟨pb, po, cap, h1, h2, _⟩) | ⟨ad, cap, h1, h2⟩
  · subst h2; simp
  · cases h1; exact h2
  · subst h2; simp
theorem slice_mem {w0 : World} {a : Option Addr} {c : Nat} {p : List Int} (h : BytesE w0 (.slice a p.length c) p) (lo n : Nat) (hn : lo + n ≤ p.length) :
    BytesE w0 (.slice (if c = lo then a else a.map (·.add (lo * 1))) n (c - lo)) ((p.drop lo).take n) := by
  have hc := slice_cap h
  by_cases hn0 : n = 0
  · subst hn0
    rw [List.take_zero]
    cases a with
    | none =>
      rcases h with (⟨h1, h2⟩ | ⟨pb, po, cap, h1, h2, h3, h4⟩) | ⟨ad, cap, h1, h2⟩
      · subst h2
        cases h1
        exact .inl (.inl ⟨by simp, rfl⟩)
      · cases h1
      · cases h1
    | some ad =>
      split
      · exact .inr ⟨ad, _, rfl, rfl⟩
      · exact .inr ⟨ad.add (lo * 1), _, rfl, rfl⟩
  · rw [if_neg (by omega)]
    rcases h with (⟨h1, h2⟩ | ⟨pb, po, cap, h1, h2, h3, h4⟩) | ⟨ad, cap, h1, h2⟩
    · subst h2; simp at hn; omega
    · cases h1
      refine .inl (.inr ⟨pb, po + lo, c - lo, ?_, ?_, h3, fun j u hu => ?_⟩)
      · rw [List.length_take, List.length_drop, show min n (p.length - lo) = n by omega]
        simp [Addr.add]
      · rw [List.length_take, List.length_drop]; omega
      · rw [List.getElem?_map, List.getElem?_take] at hu
        split at hu
        · rw [List.getElem?_drop] at hu
          rw [Nat.add_assoc]
          exact h4 (lo + j) u (by rw [List.getElem?_map]; exact hu)
        · cases hu
    · subst h2; simp at hn; omega
theorem slice_bytes {w0 : World} {v : Value} {p : List Int} (h : BytesE w0 v p) (lo n : Nat) (hn : lo + n ≤ p.length) :
    ∃ a c, (∀ (w : World) (hi : Nat), hi = lo + n → (Instr.slice 32 v (some (.int .i64 lo)) (some (.int .i64 hi)) none).run Tryd.prog w = .ok (.slice a n c) w) ∧ BytesE w0 (.slice a n c) ((p.drop lo).take n) := by
  obtain ⟨a, c, rfl⟩ := h.slice
  have hc := slice_cap h
  refine ⟨if c = lo then a else a.map (·.add (lo * 1)), c - lo, fun w hi hh => ?_, slice_mem h lo n hn⟩
  subst hh
  rw [run_slice_lh w 32 a p.length c (by exact Tryd.underlying32) .i64 .i64 lo ((lo + n : Nat) : Int) (by omega) (by omega) (by omega)]
  rw [show Tryd.prog.elem 32 = 5 from by kernel_rfl, Tryd.sizeOf5]
  simp only [Result.andThen_ok, sliced, Int.toNat_natCast]
  rw [show lo + n - lo = n by omega]
theorem slice_from {w0 : World} {v : Value} {p : List Int} (h : BytesE w0 v p) (lo n : Nat) (hn : lo + n = p.length) :
    ∃ a c, (∀ (w : World), (Instr.slice 32 v (some (.int .i64 lo)) none none).run Tryd.prog w = .ok (.slice a n c) w) ∧ BytesE w0 (.slice a n c) (p.drop lo) := by
  obtain ⟨a, c, rfl⟩ := h.slice
  have hc := slice_cap h
  have hm := slice_mem h lo n (by omega)
  rw [List.take_of_length_le (by rw [List.length_drop]; omega)] at hm
  refine ⟨if c = lo then a else a.map (·.add (lo * 1)), c - lo, fun w => ?_, hm⟩
  rw [run_slice_l w 32 a p.length c (by exact Tryd.underlying32) .i64 lo (by omega) (by omega)]
  rw [show Tryd.prog.elem 32 = 5 from by kernel_rfl, Tryd.sizeOf5]
  simp only [Result.andThen_ok, sliced, Int.toNat_natCast]
  rw [show p.length - lo = n by omega]
/-- A prefix: 'x[:n]'. -/
theorem slice_to {w0 : World} {v : Value} {p : List Int} (h : BytesE w0 v p) (n : Nat) (hn : n ≤ p.length) :
    ∃ a c, (∀ (w : World), (Instr.slice 32 v none (some (.int .i64 n)) none).run Tryd.prog w = .ok (.slice a n c) w) ∧ BytesE w0 (.slice a n c) (p.take n) := by
  obtain ⟨a, c, rfl⟩ := h.slice
  have hc := slice_cap h
  have hm := slice_mem h 0 n (by omega)
  rw [List.drop_zero] at hm
  refine ⟨if c = 0 then a else a.map (·.add (0 * 1)), c - 0, fun w => ?_, hm⟩
  rw [run_slice_h w 32 a p.length c (by exact Tryd.underlying32) .i64 n (by omega) (by omega)]
  rw [show Tryd.prog.elem 32 = 5 from by kernel_rfl, Tryd.sizeOf5]
  simp only [Result.andThen_ok, sliced, Int.toNat_natCast]
  rfl
/-- The number of the first bytes, the lowest first. -/
def numP (p : List Int) : Nat → Int
  | 0 => 0
  | i + 1 => numP p i + p.getD i 0 * 256 ^ i
def numI (p : List Int) : Int := numP p 4
theorem numI_is (p : List Int) : numI p = p.getD 0 0 + p.getD 1 0 * 256 + p.getD 2 0 * 65536 + p.getD 3 0 * 16777216 := by
  simp [numI, numP]
theorem or_shift (x : Int) (z : Int) (k : Nat) (hk : k ≤ 24) (h0 : 0 ≤ x) (hx : x < 2 ^ k) (z0 : 0 ≤ z) (z1 : z ≤ 255) : bits .or .u32 x (z * 2 ^ k) = x + z * 2 ^ k := by
  obtain ⟨a, rfl⟩ : ∃ a : Nat, x = a := ⟨x.toNat, by omega⟩
  obtain ⟨b, rfl⟩ : ∃ b : Nat, z = b := ⟨z.toNat, by omega⟩
  have ha : a < 2 ^ k := by exact_mod_cast hx
  have hb : b ≤ 255 := by omega
  have hp : 2 ^ k ≤ 2 ^ 24 := Nat.pow_le_pow_right (by omega) hk
  have hbk : b * 2 ^ k ≤ 255 * 2 ^ 24 := Nat.mul_le_mul hb hp
  have h := u32_or_nat a (b * 2 ^ k) (by omega) (by omega)
  have h2 := Nat.two_pow_add_eq_or_of_lt (i := k) (b := a) ha b
  rw [show ((b : Int) * 2 ^ k) = ((b * 2 ^ k : Nat) : Int) by push_cast; rfl, h, Nat.or_comm, Nat.mul_comm, ← h2]
  push_cast; omega

theorem numP_bounds (p : List Int) (hy : Byt p) : ∀ i, 0 ≤ numP p i ∧ numP p i < 256 ^ i
  | 0 => by simp [numP]
  | i + 1 => by
    have ⟨h0, h1⟩ := numP_bounds p hy i
    have ⟨b0, b1⟩ := hy.getD i
    have hp : (0 : Int) < 256 ^ i := Int.pow_pos (by decide)
    have h2 : p.getD i 0 * 256 ^ i ≤ 255 * 256 ^ i := Int.mul_le_mul_of_nonneg_right b1 (Int.le_of_lt hp)
    have h3 : 0 ≤ p.getD i 0 * 256 ^ i := Int.mul_nonneg b0 (Int.le_of_lt hp)
    rw [numP, Int.pow_succ]
    omega
theorem numP_step (p : List Int) (hy : Byt p) (i : Nat) (m : Int) (hi : i < 4) (hm : m = 256 ^ i) :
    Value.int .u32 (bits .or .u32 (numP p i) (p[i]?.getD 0 % 4294967296 * m % 4294967296)) = Value.int .u32 (numP p (i + 1)) := by
  have ⟨h0, h1⟩ := numP_bounds p hy i
  have ⟨b0, b1⟩ := hy.getD i
  have e : (256 : Int) ^ i = 2 ^ (8 * i) := by rw [Int.pow_mul]; rfl
  have hk : (2 : Int) ^ (8 * i) ≤ 2 ^ 24 := by exact_mod_cast Nat.pow_le_pow_right (n := 2) (by omega) (show 8 * i ≤ 24 by omega)
  have hp : (0 : Int) < 2 ^ (8 * i) := Int.pow_pos (by decide)
  rw [e] at h1
  have ho := or_shift (numP p i) (p.getD i 0) (8 * i) (by omega) h0 h1 b0 b1
  have h2 : p.getD i 0 * 2 ^ (8 * i) ≤ 255 * 2 ^ (8 * i) := Int.mul_le_mul_of_nonneg_right b1 (Int.le_of_lt hp)
  have h3 : 0 ≤ p.getD i 0 * 2 ^ (8 * i) := Int.mul_nonneg b0 (Int.le_of_lt hp)
  rw [List.getD_eq_getElem?_getD] at *
  rw [hm, e, Int.emod_eq_of_lt b0 (by omega), Int.emod_eq_of_lt h3 (by omega), ho, numP, e, List.getD_eq_getElem?_getD]

set_option maxHeartbeats 1000000 in
theorem numberOf_any (v : Value) (p : List Int) (w : World) (hb : BytesE w v p) (hl : 4 ≤ p.length) (hy : Byt p) :
    Calls Tryd.prog 66 #[v] w fun e w' => e = .returned (.int .u32 (numI p)) ∧ w = w' := by
  obtain ⟨va, vc, rfl⟩ := hb.slice
  rcases hb with (⟨_, rfl⟩ | ⟨pb, po, cap, hv, h2, h3, h4⟩) | ⟨ad, cap, _, rfl⟩
  · simp at hl
  · cases hv
    have c0 : w.cell? ⟨pb, po, none⟩ = some (.int .u8 (p.getD 0 0)) := h4 0 _ (by rw [List.getElem?_map, getD_some (by omega)]; rfl)
    have c1 : w.cell? ⟨pb, po + 1, none⟩ = some (.int .u8 (p.getD 1 0)) := h4 1 _ (by rw [List.getElem?_map, getD_some (by omega)]; rfl)
    have c2 : w.cell? ⟨pb, po + 2, none⟩ = some (.int .u8 (p.getD 2 0)) := h4 2 _ (by rw [List.getElem?_map, getD_some (by omega)]; rfl)
    have c3 : w.cell? ⟨pb, po + 3, none⟩ = some (.int .u8 (p.getD 3 0)) := h4 3 _ (by rw [List.getElem?_map, getD_some (by omega)]; rfl)
    have HY := Lib.hid hy
    have b0 := hy.getD 0
    have b1 := hy.getD 1
    have b2 := hy.getD 2
    have b3 := hy.getD 3
    have S0 := numP_step p hy 0 1 (by omega) rfl
    have S1 := Lib.hid (numP_step p hy 1 256 (by omega) rfl)
    have S2 := Lib.hid (numP_step p hy 2 65536 (by omega) rfl)
    have S3 := Lib.hid (numP_step p hy 3 16777216 (by omega) rfl)
    simp only [Int.mul_one] at S0
    have S0 := Lib.hid S0
    clear hy h4
    go_enter Tryd.func66, Tryd.ntmps66
    go_wp2
    go_loop [3, 4, 5] (fun s3 _ s5 => ∃ i : Nat, i ≤ 4 ∧ s5 = .int .i64 i ∧ s3 = .int .u32 (numP p i)) (fun _ _ s5 => 4 - (intOf s5).toNat)
    case atStart => exact ⟨0, by omega, rfl, rfl⟩
    case round =>
      obtain ⟨i, hi, rfl, rfl⟩ := hrel
      by_cases hlt : i < 4
      · rcases (by omega : i = 0 ∨ i = 1 ∨ i = 2 ∨ i = 3) with rfl | rfl | rfl | rfl
        all_goals
          go_wp2
          go_round
        case measure => simp [intOf]
        case rel => exact ⟨1, by omega, rfl, by have := S0.out; simpa using this⟩
        case measure => simp [intOf]
        case rel => exact ⟨2, by omega, rfl, S1.out⟩
        case measure => simp [intOf]
        case rel => exact ⟨3, by omega, rfl, S2.out⟩
        case measure => simp [intOf]
        case rel => exact ⟨4, by omega, rfl, S3.out⟩
      · obtain rfl : i = 4 := by omega
        go_wp2
        go_ret
        exact ⟨rfl, rfl⟩
  · simp at hl

set_option maxHeartbeats 1000000 in
theorem isKind_any (k : Int) (w : World) :
    Calls Tryd.prog 40 #[.int .i64 k] w fun e w' => e = .returned (.bool (decide (1 ≤ k ∧ k ≤ 9))) ∧ w = w' := by
  by_cases h1 : 1 ≤ k
  · by_cases h2 : k ≤ 9
    · go_enter Tryd.func40, Tryd.ntmps40
      go_wp2
      go_ret
      exact ⟨ret_bool (by simp [h1, h2]), rfl⟩
    · go_enter Tryd.func40, Tryd.ntmps40
      go_wp2
      go_ret
      exact ⟨ret_bool (by simp [h2]), rfl⟩
  · go_enter Tryd.func40, Tryd.ntmps40
    go_wp2
    go_ret
    exact ⟨ret_bool (by simp; omega), rfl⟩

/-- The cells of a slice of slices, whatever the slice is. -/
theorem Parts.open {w : World} {v : Value} {ps : List (List Int)} (h : Parts w v ps) : ∃ qa cap, v = .slice qa ps.length cap ∧ (∀ i, i < ps.length → ∃ qb qo u, qa = some ⟨qb, qo, none⟩ ∧ qb < w.heap.size ∧ w.cell? ⟨qb, qo + i, none⟩ = some u ∧ BytesE w u (ps.getD i [])) := by
  rcases h with ⟨rfl, rfl⟩ | ⟨qb, qo, cap, rfl, h1, h2⟩
  · exact ⟨none, 0, rfl, fun i hi => by simp at hi⟩
  · exact ⟨some ⟨qb, qo, none⟩, cap, rfl, fun i hi => by obtain ⟨u, h3, h4⟩ := h2 i hi; exact ⟨qb, qo, u, rfl, h1, h3, h4⟩⟩
theorem flat_len_succ (ps : List (List Int)) (i : Nat) (h : i < ps.length) : ((ps.take (i + 1)).flatten).length = ((ps.take i).flatten).length + (ps.getD i []).length := by
  rw [flat_take_succ ps i h, List.length_append]

/-- The size of a payload, if it may be one. -/
def sizeR (n : Nat) : Value := if n ≤ 8192 then .tuple #[.int .i64 n, .bool true] else .tuple #[.int .i64 0, .bool false]
set_option maxHeartbeats 1000000 in
theorem payloadSize_any (v : Value) (ps : List (List Int)) (w : World) (hp : Parts w v ps) (hm : ps.length < 9223372036854775807) (hq : ∀ i, i < ps.length → (ps.getD i []).length < 1000000000000) :
    Calls Tryd.prog 41 #[v] w fun e w' => e = .returned (sizeR ps.flatten.length) ∧ w = w' := by
  obtain ⟨qa, cap, rfl, hpe⟩ := hp.open
  have HP := Lib.hid hpe
  have HQ := Lib.hid hq
  obtain ⟨R, hR⟩ : ∃ R, R = sizeR ps.flatten.length := ⟨_, rfl⟩
  rw [← hR]
  have HR := Lib.hid hR
  clear hpe hq hp hR
  go_enter Tryd.func41, Tryd.ntmps41
  go_wp2
  go_loop [4, 6, 9] (fun s4 _ s9 => ∃ i : Nat, i ≤ ps.length ∧ s9 = .int .i64 i ∧ s4 = .int .i64 ((ps.take i).flatten).length ∧ ((ps.take i).flatten).length ≤ 8192) (fun _ _ s9 => ps.length - (intOf s9).toNat)
  case atStart => exact ⟨0, by omega, rfl, rfl, by simp⟩
  case round =>
    obtain ⟨i, hi, rfl, rfl, hL⟩ := hrel
    by_cases hlt : i < ps.length
    · obtain ⟨qb, qo, u, rfl, hql, hcu, hbu⟩ := HP.out i hlt
      have hpl := HQ.out i hlt
      have HFT : Hid (((ps.take (i + 1)).flatten).length = ((ps.take i).flatten).length + (ps.getD i []).length) := flat_len_succ ps i hlt
      have hall := flat_take_le ps (i + 1)
      rw [HFT.out] at hall
      obtain ⟨ua, uc, rfl⟩ := hbu.slice
      generalize ((ps.take i).flatten).length = A at *
      generalize (ps.getD i []).length = B at *
      clear hbu
      by_cases hbig : 8192 < A + B
      · have HA : Hid (R = .tuple #[.int .i64 0, .bool false]) := by show _ = _; rw [HR.out]; unfold sizeR; rw [if_neg (by omega)]
        clear hall
        go_wp2
        go_ret2
        exact ⟨by rw [HA.out]; rfl, rfl⟩
      · clear hall
        go_wp2
        go_round
        case rel => exact ⟨i + 1, by omega, by go_num, by rw [HFT.out]; go_num, by rw [HFT.out]; omega⟩
        case measure => simp [intOf]; omega
    · obtain rfl : i = ps.length := by omega
      rw [List.take_of_length_le (Nat.le_refl _)] at hL ⊢
      have HA : Hid (R = .tuple #[.int .i64 ps.flatten.length, .bool true]) := by show _ = _; rw [HR.out]; unfold sizeR; rw [if_pos hL]
      clear HR
      generalize ps.flatten.length = N at *
      go_wp2
      go_ret2
      exact ⟨by rw [HA.out]; rfl, rfl⟩
end Go.Proofs.YtpfbiijcmmkjlaaDoor.Fr
