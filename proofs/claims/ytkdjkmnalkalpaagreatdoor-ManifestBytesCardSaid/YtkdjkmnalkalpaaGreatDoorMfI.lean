/- Package manifest: steps done in turn, whatever they are. -/
import Derived.Test.YtkdjkmnalkalpaaGreatDoorFrB
namespace Go.Proofs.YtkdjkmnalkalpaaGreatDoor
open Go.RowKit
set_option maxRecDepth 100000

def StepC (v : Value) (W : World) (Q : Ending → World → Prop) : Prop :=
  ∃ fn bnd cap, v = .func (.func fn) bnd cap ∧ (∀ args w, (callFunc fn args).run Tryz.prog w = .ok (.enter fn args) w) ∧ Calls Tryz.prog fn (bnd ++ cap) W Q
set_option maxHeartbeats 4000000 in
theorem inTurn_any (b o cap k : Nat) (w : World) (hk : k < 9223372036854775807) (J : Nat → World → Prop) (X : Int → World → Prop) (h0 : J 0 w)
    (hrow : ∀ i W, i < k → J i W → ∃ v, W.cell? ⟨b, o + i, none⟩ = some v ∧ StepC v W fun e W' => ∃ c : Int, e = .returned (.int .i64 c) ∧ (c = 0 → J (i + 1) W') ∧ (c ≠ 0 → X c W')) :
    Calls Tryz.prog 75 #[.slice (some ⟨b, o, none⟩) k cap] w fun e w' => ∃ c : Int, e = .returned (.int .i64 c) ∧ ((c = 0 ∧ J k w') ∨ (c ≠ 0 ∧ X c w')) := by
  have H0 := Lib.hid h0
  have HR := Lib.hid hrow
  clear h0 hrow
  go_enter Tryz.func75, Tryz.ntmps75
  go_wp2_with fail
  go_loopw [8] (fun s8 wr => ∃ i : Nat, i ≤ k ∧ s8 = .int .i64 i ∧ J i wr) (fun s8 _ => k - (intOf s8).toNat)
  case atStart => exact ⟨0, by omega, rfl, H0.out⟩
  case round =>
    obtain ⟨i, hi, rfl, hj⟩ := hrel
    by_cases hlt : i < k
    · obtain ⟨v, hc, fn, bnd, cp, rfl, heg, hcall⟩ := HR.out i wr hlt hj
      have HC := Lib.hid hcall
      have li : (i : Int) < k := by omega
      clear hj hcall
      go_wp2_with fail
      refine HC.out.mono ?_; rintro e w2 ⟨c, rfl, h1, h2⟩
      have H1 := Lib.hid h1
      have H2 := Lib.hid h2
      clear h1 h2 HC heg
      by_cases hz : c = 0
      · subst hz
        go_wp2_with fail
        go_roundw
        case rel => exact ⟨i + 1, by omega, by go_num, H1.out (by trivial)⟩
        case measure => simp [intOf]; omega
      · go_wp2_with fail
        go_ret
        exact ⟨c, rfl, .inr ⟨hz, H2.out hz⟩⟩
    · obtain rfl : i = k := by omega
      have HJ := Lib.hid hj
      have li : ¬ (i : Int) < i := by omega
      clear hj
      go_wp2_with fail
      go_ret
      exact ⟨0, rfl, .inl ⟨rfl, HJ.out⟩⟩
end Go.Proofs.YtkdjkmnalkalpaaGreatDoor
