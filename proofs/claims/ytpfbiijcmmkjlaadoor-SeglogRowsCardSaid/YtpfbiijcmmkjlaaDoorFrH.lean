/- Package frame: a copy of bytes; the size of the frame that bytes begin with; the frame of bytes. -/
import Derived.Test.YtpfbiijcmmkjlaaDoorFrG
namespace Go.Proofs.YtpfbiijcmmkjlaaDoor.Fr
open Go.RowKit
set_option maxRecDepth 100000

theorem eql_nil (w : World) (a : Option Addr) (n c n' c' : Nat) : (binOp .eql 32 (.slice a n c) (.slice none n' c')).run Tryd.prog w = .ok (.bool a.isNone) w := Lib.run_eql_slice_nil w _ _ a n c n' c' Tryd.underlying32

set_option maxHeartbeats 1000000 in
theorem clone_any (v : Value) (p : List Int) (w : World) (hb : BytesE w v p) (hl : p.length ≤ 1000000) :
    Calls Tryd.prog 44 #[v] w fun e w' => ∃ v', e = .returned v' ∧ OwnB w' w.heap.size v' p ∧ Below w.heap.size w w' := by
  have q := eql_nil
  obtain ⟨va, vc, rfl⟩ := hb.slice
  cases va with
  | none =>
    have hp : p = [] ∧ vc = 0 := by
      rcases hb with (⟨h1, h2⟩ | ⟨pb, po, cap, h1, _⟩) | ⟨ad, cap, h1, _⟩
      · subst h2; cases h1; exact ⟨rfl, rfl⟩
      · cases h1
      · cases h1
    obtain ⟨rfl, rfl⟩ := hp
    go_enter Tryd.func44, Tryd.ntmps44
    go_wp2_with fail
    go_ret
    exact ⟨_, rfl, World.ownsRow_nil _ _ _ _, Below.refl _ _⟩
  | some ad =>
    go_enter Tryd.func44, Tryd.ntmps44
    have hown0 : OwnB (w.alloc (.cells #[] 5)) w.heap.size (.slice (some ⟨w.heap.size, 0, none⟩) 0 0) [] := World.ownsRow_lit w #[] 0 (Nat.le_refl _) (by unfold maxLen; omega) rfl
    have hB2 : Below w.heap.size w (w.alloc (.cells #[] 5)) := (Below.refl _ _).alloc (Nat.le_refl _) _
    have HO := Lib.hid hown0
    have HB := Lib.hid hB2
    have HBE := Lib.hid hb
    clear hown0 hB2 hb
    go_wp2_with (with_reducible refine wpList_append_bytesE rfl (.tmp 5) (.tmp 6) rfl w.heap.size _ _ [] p ?_ HO.out ?_ HBE.out HB.out ?_ HB.out.size ?_)
    case refine_1 => rfl
    case refine_2 => rfl
    case refine_3 => simp; omega
    intro v1 w2 hown2 hg2
    have hB3 := Lib.hid (HB.out.trans (HO.out.below hg2 HB.out.size))
    obtain ⟨g2, c2, rfl⟩ := hown2.slice
    have HO2 := Lib.hid hown2
    clear hown2 hg2 HO HB
    go_wp2_with fail
    go_ret
    exact ⟨_, rfl, HO2.out, hB3.out⟩

/-- The size of the frame that bytes begin with, and whether it is there. -/
def sizeF (p : List Int) : Int × Bool := if 9 ≤ p.length ∧ numI p ≤ 8192 ∧ numI p + 9 ≤ p.length then (numI p + 9, true) else (0, false)
theorem numI_bounds {p : List Int} (hy : Byt p) : 0 ≤ numI p ∧ numI p ≤ 4294967295 := by
  have h0 := hy.getD 0
  have h1 := hy.getD 1
  have h2 := hy.getD 2
  have h3 := hy.getD 3
  rw [numI_is]; omega

set_option maxHeartbeats 1000000 in
theorem frameSize_any (v : Value) (p : List Int) (w : World) (hb : BytesE w v p) (hy : Byt p) (hl : p.length < 9223372036854775807) :
    Calls Tryd.prog 46 #[v] w fun e w' => e = .returned (.tuple #[.int .i64 (sizeF p).1, .bool (sizeF p).2]) ∧ w = w' := by
  obtain ⟨va, vc, rfl⟩ := hb.slice
  have HBE := Lib.hid hb
  have HY := Lib.hid hy
  have ⟨n0, n1⟩ := numI_bounds hy
  clear hb hy
  by_cases h9 : p.length < 9
  · have HS : Hid (sizeF p = (0, false)) := by show _ = _; unfold sizeF; rw [if_neg (by omega)]
    generalize sizeF p = s at *
    clear n0 n1
    have h9' : (p.length : Int) < 9 := by omega
    go_enter Tryd.func46, Tryd.ntmps46
    go_wp2_with fail
    go_ret2
    exact ⟨by rw [HS.out]; rfl, rfl⟩
  · have cN := Lib.hid (numberOf_any _ p w HBE.out (by omega) HY.out)
    have h9' : ¬ (p.length : Int) < 9 := by omega
    by_cases hbig : numI p ≤ 8192 ∧ numI p + 9 ≤ p.length
    · have HS : Hid (sizeF p = (numI p + 9, true)) := by show _ = _; unfold sizeF; rw [if_pos ⟨by omega, hbig⟩]
      obtain ⟨k1, k2⟩ := hbig
      generalize sizeF p = s at *
      generalize numI p = n at *
      have k3 : ¬ 8192 < n := by omega
      have k4 : ¬ (p.length : Int) < n + 9 := by omega
      go_enter Tryd.func46, Tryd.ntmps46
      go_wp2_with fail
      refine cN.out.mono ?_; rintro e w' ⟨rfl, rfl⟩
      go_wp2_with fail
      go_ret2
      exact ⟨by rw [HS.out]; rfl, rfl⟩
    · have HS : Hid (sizeF p = (0, false)) := by show _ = _; unfold sizeF; rw [if_neg (by omega)]
      generalize sizeF p = s at *
      generalize numI p = n at *
      by_cases k3 : 8192 < n
      · clear hbig
        go_enter Tryd.func46, Tryd.ntmps46
        go_wp2_with fail
        refine cN.out.mono ?_; rintro e w' ⟨rfl, rfl⟩
        go_wp2_with fail
        go_ret2
        exact ⟨by rw [HS.out]; rfl, rfl⟩
      · have k4 : (p.length : Int) < n + 9 := by omega
        clear hbig
        go_enter Tryd.func46, Tryd.ntmps46
        go_wp2_with fail
        refine cN.out.mono ?_; rintro e w' ⟨rfl, rfl⟩
        go_wp2_with fail
        go_ret2
        exact ⟨by rw [HS.out]; rfl, rfl⟩
end Go.Proofs.YtpfbiijcmmkjlaaDoor.Fr
