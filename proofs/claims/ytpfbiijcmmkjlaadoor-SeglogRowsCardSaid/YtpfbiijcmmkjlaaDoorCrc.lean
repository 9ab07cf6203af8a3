/- The sum of bytes, over plain numbers: eight moves, a table's step, and that they are one. Nothing of the program. -/
import Derived.WalkKit
import Derived.Laws.BitsAllLaws
namespace Go.Proofs.YtpfbiijcmmkjlaaDoor.Fr
open Go.RowKit
/-- One move. -/
def m1 (n : Nat) : Nat := if n % 2 = 1 then (n / 2) ^^^ 2197175160 else n / 2
def mv : Nat → Nat → Nat
  | 0, n => n
  | k + 1, n => m1 (mv k n)
def m8 (n : Nat) : Nat := mv 8 n
theorem xor_mod2 (a b : Nat) : (a ^^^ b) % 2 = (a % 2 + b % 2) % 2 := by
  have h := Nat.xor_mod_two_eq_one (a := a) (b := b)
  omega
theorem xor_div2 (a b : Nat) : (a ^^^ b) / 2 = a / 2 ^^^ b / 2 := by
  have := Nat.shiftRight_xor_distrib (i := 1) (a := a) (b := b)
  simpa [Nat.shiftRight_eq_div_pow] using this
theorem m1_xor (a b : Nat) : m1 (a ^^^ b) = m1 a ^^^ m1 b := by
  unfold m1
  rw [xor_mod2, xor_div2]
  rcases Nat.mod_two_eq_zero_or_one a with ha | ha <;> rcases Nat.mod_two_eq_zero_or_one b with hb | hb
  · simp [ha, hb]
  · simp [ha, hb, Nat.xor_assoc]
  · simp only [ha, hb]; simp; rw [Nat.xor_assoc, Nat.xor_assoc, Nat.xor_comm (b / 2)]
  · simp only [ha, hb]; simp; rw [Nat.xor_assoc (a / 2), Nat.xor_comm 2197175160, Nat.xor_assoc (b / 2), Nat.xor_self, Nat.xor_zero]
theorem mv_xor (a b : Nat) : ∀ k, mv k (a ^^^ b) = mv k a ^^^ mv k b
  | 0 => rfl
  | k + 1 => by rw [mv, mv, mv, mv_xor a b k, m1_xor]
theorem mv_pow (h : Nat) : ∀ k j, mv k (h * 2 ^ (k + j)) = h * 2 ^ j
  | 0, j => by simp [mv]
  | k + 1, j => by
    rw [mv, show k + 1 + j = k + (j + 1) by omega, mv_pow h k (j + 1), Nat.pow_succ, ← Nat.mul_assoc]
    unfold m1
    rw [if_neg (by omega)]; omega
theorem m8_split (c x : Nat) : m8 (c ^^^ x) = c / 256 ^^^ m8 ((c % 256) ^^^ x) := by
  have e : c = (c / 256 * 2 ^ (8 + 0)) ^^^ (c % 256) := by
    have h := Nat.two_pow_add_eq_or_of_lt (i := 8) (b := c % 256) (by omega) (c / 256)
    have h2 : 2 ^ 8 * (c / 256) ||| c % 256 = 2 ^ 8 * (c / 256) ^^^ c % 256 := by
      apply Nat.eq_of_testBit_eq
      intro i
      rw [Nat.testBit_or, Nat.testBit_xor, Nat.testBit_two_pow_mul]
      by_cases hi : i < 8
      · simp [show ¬ 8 ≤ i by omega]
      · have : (c % 256).testBit i = false := Nat.testBit_lt_two_pow (Nat.lt_of_lt_of_le (show c % 256 < 2 ^ 8 by omega) (Nat.pow_le_pow_right (by omega) (by omega)))
        simp [this]
    have h3 : 2 ^ 8 * (c / 256) + c % 256 = c := by omega
    rw [Nat.mul_comm (c / 256), Nat.add_zero, ← h2, ← h, h3]
  have h1 : m8 (c ^^^ x) = mv 8 (c / 256 * 2 ^ (8 + 0)) ^^^ mv 8 ((c % 256) ^^^ x) := by
    unfold m8; rw [← mv_xor, ← Nat.xor_assoc, ← e]
  rw [h1, mv_pow]; simp [m8]
/-- The sum's steps over bytes. -/
def crcN (c : Nat) (p : List Int) : Nat := p.foldl (fun c x => m8 (c ^^^ x.toNat)) c
theorem crcN_append (c : Nat) (p q : List Int) : crcN c (p ++ q) = crcN (crcN c p) q := by unfold crcN; rw [List.foldl_append]
theorem m1_lt {n : Nat} (h : n < 4294967296) : m1 n < 4294967296 := by
  unfold m1; split
  · exact Nat.xor_lt_two_pow (n := 32) (by omega) (by decide)
  · omega
theorem mv_lt {n : Nat} (h : n < 4294967296) : ∀ k, mv k n < 4294967296
  | 0 => h
  | k + 1 => m1_lt (mv_lt h k)
theorem m8_lt {n : Nat} (h : n < 4294967296) : m8 n < 4294967296 := mv_lt h 8
theorem crcN_lt {c : Nat} (h : c < 4294967296) : ∀ (p : List Int), (∀ z ∈ p, 0 ≤ z ∧ z ≤ 255) → crcN c p < 4294967296
  | [], _ => h
  | x :: p, hp => crcN_lt (m8_lt (Nat.xor_lt_two_pow (n := 32) (by omega) (by have := hp x (by simp); omega))) p fun z hz => hp z (by simp [hz])
/-- The sum of bytes. -/
def sumN (p : List Int) : Nat := crcN 4294967295 p ^^^ 4294967295
theorem sumN_lt {p : List Int} (hp : ∀ z ∈ p, 0 ≤ z ∧ z ≤ 255) : sumN p < 4294967296 := Nat.xor_lt_two_pow (n := 32) (crcN_lt (by omega) p hp) (by omega)
theorem crcN_snoc (c : Nat) (p : List Int) (x : Int) : crcN c (p ++ [x]) = m8 (crcN c p ^^^ x.toNat) := by unfold crcN; rw [List.foldl_append]; rfl
theorem crcN_take (c : Nat) (p : List Int) (i : Nat) (h : i < p.length) : crcN c (p.take (i + 1)) = m8 (crcN c (p.take i) ^^^ (p.getD i 0).toNat) := by
  rw [List.take_succ_eq_append_getElem h, crcN_snoc, List.getD_eq_getElem?_getD, List.getElem?_eq_getElem h]; rfl
/-- The spellings of the walk. -/
theorem and_one (n : Nat) (h : n < 4294967296) : bits .and .u32 (n : Int) 1 = ((n % 2 : Nat) : Int) := by
  have := u32_and_nat n 1 h (by omega)
  rw [Nat.and_one_is_mod] at this
  simpa using this
theorem xor_u32 (a b : Nat) (ha : a < 4294967296) (hb : b < 4294967296) : bits .xor .u32 (a : Int) (b : Int) = ((a ^^^ b : Nat) : Int) := u32_xor_nat a b ha hb
theorem xor_poly (a : Nat) (ha : a < 4294967296) : bits .xor .u32 (a : Int) 2197175160 = ((a ^^^ 2197175160 : Nat) : Int) := u32_xor_nat a 2197175160 ha (by omega)
theorem xor_all (a : Nat) (ha : a < 4294967296) : bits .xor .u32 (a : Int) 4294967295 = ((a ^^^ 4294967295 : Nat) : Int) := u32_xor_nat a 4294967295 ha (by omega)
end Go.Proofs.YtpfbiijcmmkjlaaDoor.Fr
