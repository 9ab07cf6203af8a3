/- The constants of SHA-256 as package digest works them out: primes, roots, and the two arrays of them. -/
import Derived.Test.YtigpccfglicjeaaLeaf
import Derived.Test.YtigpccfglicjeaaMem
import Derived.Lib.Mul64
import Derived.Shelf.Bits.Mul64
import Derived.Laws.Bits64b
namespace Go.Proofs.Ytigpccfglicjeaa
open Go.RowKit

set_option maxHeartbeats 1000000 in
theorem mul64_any (x y : Nat) (hx : x < 18446744073709551616) (hy : y < 18446744073709551616) (w : World) :
    Calls Try.prog 35 #[.int .u64 x, .int .u64 y] w fun e w' => e = .returned (.tuple #[.int .u64 ((x * y / 18446744073709551616 : Nat) : Int), .int .u64 ((x * y % 18446744073709551616 : Nat) : Int)]) ∧ w = w' := by
  obtain ⟨bd, bt, bw, hhi⟩ := Lib.mul64_hi x y hx hy
  have ba := Lib.half_mul_le (a := x / 4294967296) (b := y / 4294967296) (by omega) (by omega)
  have bb := Lib.half_mul_le (a := x / 4294967296) (b := y % 4294967296) (by omega) (by omega)
  have bc := Lib.half_mul_le (a := x % 4294967296) (b := y / 4294967296) (by omega) (by omega)
  have ba' : x / 4294967296 * (y / 4294967296) < 18446744073709551616 := by omega
  have bb' : x / 4294967296 * (y % 4294967296) < 18446744073709551616 := by omega
  have bc' : x % 4294967296 * (y / 4294967296) < 18446744073709551616 := by omega
  have bh1 : x / 4294967296 * (y / 4294967296) + (x / 4294967296 * (y % 4294967296) + x % 4294967296 * (y % 4294967296) / 4294967296) / 4294967296 < 18446744073709551616 := by omega
  have bh : x / 4294967296 * (y / 4294967296) + (x / 4294967296 * (y % 4294967296) + x % 4294967296 * (y % 4294967296) / 4294967296) / 4294967296 + ((x / 4294967296 * (y % 4294967296) + x % 4294967296 * (y % 4294967296) / 4294967296) % 4294967296 + x % 4294967296 * (y / 4294967296)) / 4294967296 < 18446744073709551616 := by omega
  go_enter Try.func35, Try.ntmps35
  go_wp2
  simp only [Mul64.maskN x hx, Mul64.maskN y hy, Mul64.divN, Mul64.mulN, Mul64.addN, Mul64.wrapN _ bd, Mul64.wrapN _ bb', Mul64.wrapN _ bt, Mul64.maskN _ bt, Mul64.wrapN _ bc', Mul64.wrapN _ bw, Mul64.wrapN _ ba', Mul64.wrapN _ bh1, Mul64.wrapN _ bh, Mul64.wrapM (x * y)]
  rw [hhi]
  go_ret2
  exact ⟨rfl, rfl⟩

def sqB (p x : Nat) : Bool := decide ((x : Int) * x / 18446744073709551616 < p)
def cbB (p x : Nat) : Bool :=
  decide (IntKind.u64.wrap (IntKind.u64.wrap ((x : Int) * x / 18446744073709551616 * x) + (x : Int) * x % 18446744073709551616 * x / 18446744073709551616) < (p : Int) * 4294967296)

set_option maxHeartbeats 400000 in
theorem belowSq_any (x p : Nat) (hx : x < 34359738368) (w : World) :
    Calls Try.prog 29 #[.int .u64 x, .int .u64 p] w fun e w' => e = .returned (.bool (sqB p x)) ∧ w = w' := by
  go_enter Try.func29, Try.ntmps29
  go_wp2_with fail
  refine (mul64_any _ _ (by omega) (by omega) _).mono ?_; rintro e w' ⟨rfl, rfl⟩
  go_wp2_with fail
  go_ret
  exact ⟨rfl, rfl⟩

set_option maxHeartbeats 400000 in
theorem belowCb_any (x p : Nat) (hx : x < 34359738368) (hp : p < 4294967296) (w : World) :
    Calls Try.prog 30 #[.int .u64 x, .int .u64 p] w fun e w' => e = .returned (.bool (cbB p x)) ∧ w = w' := by
  have hlo : x * x % 18446744073709551616 < 18446744073709551616 := Nat.mod_lt _ (by omega)
  go_enter Try.func30, Try.ntmps30
  go_wp2_with fail
  refine (mul64_any _ _ (by omega) (by omega) _).mono ?_; rintro e w' ⟨rfl, rfl⟩
  go_wp2_with fail
  refine (mul64_any _ _ hlo (by omega) _).mono ?_; rintro e w' ⟨rfl, rfl⟩
  go_wp2_with fail
  go_ret
  exact ⟨rfl, rfl⟩

/-- Is n no multiple of any d from d0 on whose square is at most n? f: how many d are left. -/
def primeTo (n : Nat) : Nat → Nat → Bool
  | 0, _ => true
  | f + 1, d => if d * d ≤ n then (if n % d = 0 then false else primeTo n f (d + 1)) else true
theorem primeTo_step (n f d : Nat) (h : d * d ≤ n) : primeTo n (f + 1) d = if n % d = 0 then false else primeTo n f (d + 1) := by simp [primeTo, h]
theorem primeTo_end (n f d : Nat) (h : ¬ d * d ≤ n) : primeTo n f d = true := by cases f <;> simp [primeTo, h]
def primeB (n : Nat) : Bool := primeTo n n 2

theorem sq_le (d : Nat) (h : d ≤ 65538) : (d : Int) * d ≤ 4295229444 := by
  have := Nat.mul_le_mul h h
  rw [← Int.natCast_mul]; omega
theorem sq_le_iff (d n : Nat) : ((d : Int) * d ≤ n) ↔ d * d ≤ n := by rw [← Int.natCast_mul]; omega
theorem mod_yes (n d : Nat) (h : n % d = 0) : ((n : Int) % d == 0) = true := by rw [beq_iff_eq, ← Int.natCast_emod, h]; rfl
theorem mod_no (n d : Nat) (h : ¬ n % d = 0) : ((n : Int) % d == 0) = false := by
  rw [beq_eq_false_iff_ne, ← Int.natCast_emod]; omega

set_option maxHeartbeats 400000 in
theorem prime_any (n : Nat) (hn : n < 65536) (w : World) :
    Calls Try.prog 27 #[.int .u64 n] w fun e w' => e = .returned (.bool (primeB n)) ∧ w = w' := by
  go_enter Try.func27, Try.ntmps27
  go_wp2_with fail
  go_loop [3] (fun i => ∃ d : Nat, 2 ≤ d ∧ d ≤ n + 2 ∧ i = .int .u64 d ∧ primeB n = primeTo n (n + 2 - d) d) (fun i => n + 2 - (intOf i).toNat)
  case atStart => exact ⟨2, by omega, by omega, rfl, rfl⟩
  case round =>
    obtain ⟨d, h2, hd, rfl, hq⟩ := hrel
    have HP := Lib.hid hq; clear hq
    have hsq := sq_le d (by omega)
    have hs0 : 0 ≤ (d : Int) * d := Int.mul_nonneg (by omega) (by omega)
    by_cases hdd : d * d ≤ n
    · have hlt : d < n + 2 := by have := Nat.le_mul_of_pos_left d (show 0 < d by omega); omega
      have hle : decide ((d : Int) * d ≤ n) = true := by rw [decide_eq_true_eq, sq_le_iff]; exact hdd
      have HS := Lib.hid (primeTo_step n (n + 1 - d) d hdd)
      by_cases hm : n % d = 0
      · have hm' := mod_yes n d hm
        have HM := Lib.hid hm; clear hm hdd
        go_wp2
        go_ret
        exact ⟨ret_bool (by rw [HP.out, show n + 2 - d = n + 1 - d + 1 by omega, HS.out, if_pos HM.out]), rfl⟩
      · have hm' := mod_no n d hm
        have HM := Lib.hid hm; clear hm hdd
        go_wp2
        go_round
        case rel => exact ⟨d + 1, by omega, by omega, by go_num, by rw [HP.out, show n + 2 - d = n + 1 - d + 1 by omega, HS.out, if_neg HM.out, show n + 2 - (d + 1) = n + 1 - d by omega]⟩
        case measure => simp [intOf]; omega
    · have hle : decide ((d : Int) * d ≤ n) = false := by rw [decide_eq_false_iff_not, sq_le_iff]; exact hdd
      have HS := Lib.hid (primeTo_end n (n + 2 - d) d hdd)
      clear hdd
      go_wp2
      go_ret
      exact ⟨ret_bool (by rw [HP.out, HS.out]), rfl⟩

/-- The bit that stands at round k. -/
def bitv (k : Nat) : Nat := 2 ^ k / 2
def orN (x y : Nat) : Nat := x ||| y
theorem bitv_zero : bitv 0 = 0 := rfl
theorem bitv_succ (k : Nat) : bitv (k + 1) = 2 ^ k := by unfold bitv; rw [Nat.pow_succ]; omega
theorem bitv_half (k : Nat) : ((bitv (k + 1) : Nat) : Int) / 2 = (bitv k : Nat) := by
  rw [bitv_succ]; unfold bitv; omega
theorem bitv_pos (k : Nat) : 0 < bitv (k + 1) := by rw [bitv_succ]; exact Nat.two_pow_pos k
theorem bitv_le (k : Nat) (h : k ≤ 35) : bitv k ≤ 17179869184 := by
  unfold bitv
  have : 2 ^ k ≤ 2 ^ 35 := Nat.pow_le_pow_right (by omega) h
  omega
theorem orN_lt (x k : Nat) (hx : x < 34359738368) (hk : k < 35) : orN x (bitv (k + 1)) < 34359738368 := by
  rw [bitv_succ]
  exact Nat.or_lt_two_pow (n := 35) hx (Nat.pow_lt_pow_right (by omega) hk)
theorem orN_bits (x y : Nat) (hx : x < 34359738368) (hy : y ≤ 17179869184) : bits .or .u64 (x : Int) (y : Int) = (orN x y : Nat) :=
  u64_or_nat x y (by omega) (by omega)
/-- The root's bits, the highest first. -/
def fracTo (b : Nat → Bool) : Nat → Nat → Nat
  | 0, x => x
  | k + 1, x => fracTo b k (if b (orN x (bitv (k + 1))) then orN x (bitv (k + 1)) else x)
def fracI (b : Nat → Bool) : Int := (fracTo b 35 0 : Int) % 4294967296

set_option maxHeartbeats 400000 in
theorem fractionSq_any (p : Nat) (w : World) :
    Calls Try.prog 28 #[.int .u64 p, .func (.func 29) #[] #[]] w fun e w' => e = .returned (.int .u32 (fracI (sqB p))) ∧ w = w' := by
  go_enter Try.func28, Try.ntmps28
  go_wp2_with fail
  go_loop [5, 6] (fun x i => ∃ k q : Nat, k ≤ 35 ∧ q < 34359738368 ∧ x = .int .u64 q ∧ i = .int .u64 (bitv k) ∧ fracTo (sqB p) 35 0 = fracTo (sqB p) k q) (fun _ i => (intOf i).toNat)
  case atStart => exact ⟨35, 0, by omega, by omega, rfl, rfl, rfl⟩
  case round =>
    obtain ⟨k, q, hk, hq, rfl, rfl, hf⟩ := hrel
    have HF := Lib.hid hf; clear hf
    cases k with
    | zero =>
      have hz := bitv_zero
      go_wp2
      go_ret
      exact ⟨ret_int (by unfold fracI; rw [HF.out]; rfl), rfl⟩
    | succ k =>
      have hpos := bitv_pos k
      have hl := bitv_le (k + 1) hk
      have hh := bitv_half k
      have ho := orN_bits q (bitv (k + 1)) hq hl
      have hx := orN_lt q k hq (by omega)
      have hlt : bitv k < bitv (k + 1) := by have := bitv_half k; omega
      by_cases hb : sqB p (orN q (bitv (k + 1))) = true
      · have HS : Hid (fracTo (sqB p) (k + 1) q = fracTo (sqB p) k (orN q (bitv (k + 1)))) := by show _ = _; rw [fracTo, if_pos hb]
        go_wp2_with fail
        refine (belowSq_any _ _ hx _).mono ?_; rintro e w' ⟨rfl, rfl⟩
        go_wp2_with fail
        go_round
        case rel => exact ⟨k, orN q (bitv (k + 1)), by omega, hx, rfl, rfl, by rw [HF.out, HS.out]⟩
        case measure => simp [intOf]; omega
      · have HS : Hid (fracTo (sqB p) (k + 1) q = fracTo (sqB p) k q) := by show _ = _; rw [fracTo, if_neg hb]
        have hb' : sqB p (orN q (bitv (k + 1))) = false := by simpa using hb
        clear hb
        go_wp2_with fail
        refine (belowSq_any _ _ hx _).mono ?_; rintro e w' ⟨rfl, rfl⟩
        go_wp2_with fail
        go_round
        case rel => exact ⟨k, q, by omega, hq, rfl, rfl, by rw [HF.out, HS.out]⟩
        case measure => simp [intOf]; omega

set_option maxHeartbeats 400000 in
theorem fractionCb_any (p : Nat) (hp : p < 4294967296) (w : World) :
    Calls Try.prog 28 #[.int .u64 p, .func (.func 30) #[] #[]] w fun e w' => e = .returned (.int .u32 (fracI (cbB p))) ∧ w = w' := by
  go_enter Try.func28, Try.ntmps28
  go_wp2_with fail
  go_loop [5, 6] (fun x i => ∃ k q : Nat, k ≤ 35 ∧ q < 34359738368 ∧ x = .int .u64 q ∧ i = .int .u64 (bitv k) ∧ fracTo (cbB p) 35 0 = fracTo (cbB p) k q) (fun _ i => (intOf i).toNat)
  case atStart => exact ⟨35, 0, by omega, by omega, rfl, rfl, rfl⟩
  case round =>
    obtain ⟨k, q, hk, hq, rfl, rfl, hf⟩ := hrel
    have HF := Lib.hid hf; clear hf
    cases k with
    | zero =>
      have hz := bitv_zero
      go_wp2
      go_ret
      exact ⟨ret_int (by unfold fracI; rw [HF.out]; rfl), rfl⟩
    | succ k =>
      have hpos := bitv_pos k
      have hl := bitv_le (k + 1) hk
      have hh := bitv_half k
      have ho := orN_bits q (bitv (k + 1)) hq hl
      have hx := orN_lt q k hq (by omega)
      have hlt : bitv k < bitv (k + 1) := by have := bitv_half k; omega
      by_cases hb : cbB p (orN q (bitv (k + 1))) = true
      · have HS : Hid (fracTo (cbB p) (k + 1) q = fracTo (cbB p) k (orN q (bitv (k + 1)))) := by show _ = _; rw [fracTo, if_pos hb]
        go_wp2_with fail
        refine (belowCb_any _ _ hx hp _).mono ?_; rintro e w' ⟨rfl, rfl⟩
        go_wp2_with fail
        go_round
        case rel => exact ⟨k, orN q (bitv (k + 1)), by omega, hx, rfl, rfl, by rw [HF.out, HS.out]⟩
        case measure => simp [intOf]; omega
      · have HS : Hid (fracTo (cbB p) (k + 1) q = fracTo (cbB p) k q) := by show _ = _; rw [fracTo, if_neg hb]
        have hb' : cbB p (orN q (bitv (k + 1))) = false := by simpa using hb
        clear hb
        go_wp2_with fail
        refine (belowCb_any _ _ hx hp _).mono ?_; rintro e w' ⟨rfl, rfl⟩
        go_wp2_with fail
        go_round
        case rel => exact ⟨k, q, by omega, hq, rfl, rfl, by rw [HF.out, HS.out]⟩
        case measure => simp [intOf]; omega

end Go.Proofs.Ytigpccfglicjeaa
