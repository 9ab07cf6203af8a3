/- The digits of a digest's text: the program's 'digit', the reference's 'digit'. -/
import Derived.Test.YtigpccfglicjeaaLeaf
namespace Go.Proofs.Ytigpccfglicjeaa
open Go.RowKit

/-- A digit of sixteen. -/
def dig (n : Int) : Int := if n < 10 then 48 + n else 87 + n

set_option maxHeartbeats 400000 in
theorem refDigit_any (n : Int) (h0 : 0 ≤ n) (h16 : n < 16) (w : World) :
    Calls Try.prog 23 #[.int .i64 n] w fun e w' => e = .returned (.int .u8 (dig n)) ∧ w = w' := by
  have e1 : IntKind.i64.wrap (48 + n) = 48 + n := IntWalk.i64_in _ (by omega)
  have e2 : IntKind.i64.wrap (97 + n) = 97 + n := IntWalk.i64_in _ (by omega)
  have e3 : IntKind.i64.wrap (97 + n - 10) = 97 + n - 10 := IntWalk.i64_in _ (by omega)
  have e4 : IntKind.u8.wrap (48 + n) = 48 + n := by rw [IntKind.wrap_u8]; omega
  have e5 : IntKind.u8.wrap (97 + n - 10) = 97 + n - 10 := by rw [IntKind.wrap_u8]; omega
  go_enter Try.func23, Try.ntmps23
  by_cases hlt : n < 10
  · go_wp2
    go_ret
    exact ⟨ret_int (by unfold dig; rw [if_pos hlt]), rfl⟩
  · go_wp2
    go_ret
    exact ⟨ret_int (by unfold dig; rw [if_neg (by omega)]; omega), rfl⟩

/-- What a sign stands for, and whether it is a digit. -/
def undig (c : Int) : Int × Bool := if 48 ≤ c ∧ c ≤ 57 then (c - 48, true) else if 97 ≤ c ∧ c ≤ 102 then (c - 87, true) else (0, false)

set_option maxHeartbeats 400000 in
theorem digit_any (c : Int) (h0 : 0 ≤ c) (h255 : c ≤ 255) (w : World) :
    Calls Try.prog 22 #[.int .u8 c] w fun e w' => e = .returned (.tuple #[.int .u8 (undig c).1, .bool (undig c).2]) ∧ w = w' := by
  go_enter Try.func22, Try.ntmps22
  by_cases h1 : 48 ≤ c
  · by_cases h2 : c ≤ 57
    · go_wp2
      exact bodyPost_ret (v := .tuple #[.int .u8 (c - 48), .bool true]) (by simp [results, Try.results22, go_sem]) rfl ⟨by simp [undig, h1, h2], rfl⟩
    · by_cases h3 : 97 ≤ c
      · by_cases h4 : c ≤ 102
        · have hU : undig c = (c - 97 + 10, true) := by unfold undig; rw [if_neg (by omega), if_pos (by omega)]; congr 1; omega
          go_wp2
          exact bodyPost_ret (v := .tuple #[.int .u8 (c - 97 + 10), .bool true]) (by simp [results, Try.results22, go_sem]) rfl ⟨rfl, rfl⟩
        · have hU : undig c = (0, false) := by unfold undig; rw [if_neg (by omega), if_neg (by omega)]
          go_wp2
          exact bodyPost_ret (v := .tuple #[.int .u8 (0), .bool false]) (by simp [results, Try.results22, go_sem]) rfl ⟨rfl, rfl⟩
      · have hU : undig c = (0, false) := by unfold undig; rw [if_neg (by omega), if_neg (by omega)]
        go_wp2
        exact bodyPost_ret (v := .tuple #[.int .u8 (0), .bool false]) (by simp [results, Try.results22, go_sem]) rfl ⟨rfl, rfl⟩
  · have hU : undig c = (0, false) := by unfold undig; rw [if_neg (by omega), if_neg (by omega)]
    go_wp2
    exact bodyPost_ret (v := .tuple #[.int .u8 (0), .bool false]) (by simp [results, Try.results22, go_sem]) rfl ⟨rfl, rfl⟩
end Go.Proofs.Ytigpccfglicjeaa
