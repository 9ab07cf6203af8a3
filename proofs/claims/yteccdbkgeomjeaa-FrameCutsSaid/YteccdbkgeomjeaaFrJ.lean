/- Package frame: 'Decode'. -/
import Derived.Test.YteccdbkgeomjeaaFrI
namespace Go.Proofs.Yteccdbkgeomjeaa
open Go.RowKit

/-- What Decode answers: kind, payload, error. -/
def decodeI (p : List Int) : Int × List Int × Int := if (sizeF p).2 = true ∧ (sizeF p).1 = p.length then decI p else (0, [], 2)

set_option maxRecDepth 100000 in
set_option maxHeartbeats 4000000 in
theorem decodeTop_any (v : Value) (p : List Int) (w : World) (hb : BytesE w v p) (hy : Byt p) (hl : p.length < 9223372036854775807) :
    Calls Try.prog 16 #[v] w fun e w' => ∃ v', e = .returned (.tuple #[.agg #[.int .i64 (decodeI p).1, v'], .int .i64 (decodeI p).2.2]) ∧ OwnB w' w.heap.size v' (decodeI p).2.1 ∧ Below w.heap.size w w' := by
  obtain ⟨va, vc, rfl⟩ := hb.slice
  have hkz : Blk (w.alloc (.cells #[.int .i64 0, .slice none 0 0] 37)) w.heap.size 37 [.int .i64 0, .slice none 0 0] := Blk.new w 37 [.int .i64 0, .slice none 0 0]
  have hBz : Below w.heap.size w (w.alloc (.cells #[.int .i64 0, .slice none 0 0] 37)) := (Below.refl _ _).alloc (Nat.le_refl _) _
  obtain ⟨wz, hwz⟩ : ∃ wz, wz = w.alloc (.cells #[.int .i64 0, .slice none 0 0] 37) := ⟨_, rfl⟩
  rw [← hwz] at hkz hBz
  have HWZ := Lib.hid hwz
  have HKZ := Lib.hid hkz
  have HBZ := Lib.hid hBz
  have HBE := Lib.hid (hb.below hBz)
  have HY := Lib.hid hy
  have CF := Lib.hid (frameSize_any _ p wz HBE.out hy hl)
  clear hb hy hkz hBz hwz
  by_cases hc : (sizeF p).2 = true ∧ (sizeF p).1 = p.length
  · have HD : Hid (decodeI p = decI p) := by show _ = _; unfold decodeI; rw [if_pos hc]
    obtain ⟨h2, h1⟩ := hc
    have hsz : 9 ≤ p.length ∧ p.length ≤ 8201 := by
      unfold sizeF at h1 h2
      split at h2
      · rename_i hh
        rw [if_pos hh] at h1
        have : numI p + 9 = p.length := h1
        omega
      · cases h2
    rw [h1, h2] at CF
    clear h1 h2
    have cD : ∀ w1 : World, Blk w1 wz.heap.size 69 (tabI.map (Value.int .u32)) → Below wz.heap.size wz w1 → Calls Try.prog 27 #[.pointer (some ⟨wz.heap.size, 0, none⟩), .slice va p.length vc] w1 fun e w' => ∃ v', e = .returned (.tuple #[.agg #[.int .i64 (decI p).1, v'], .int .i64 (decI p).2.2]) ∧ OwnB w' w1.heap.size v' (decI p).2.1 ∧ Below w1.heap.size w1 w' :=
      fun w1 hk1 hb1 => decode_any _ _ p w1 hk1 (HBE.out.below hb1) HY.out hsz.2 hsz.1
    rw [HD.out]
    generalize decI p = r at *
    have CD := Lib.hid cD
    clear cD HD
    go_enter Try.func16, Try.ntmps16
    go_wp2_with fail
    rw [← HWZ.out]
    refine CF.out.mono ?_; rintro e w' ⟨rfl, rfl⟩
    go_wp2_with fail
    refine (newTable_any _).mono ?_; rintro e w1 ⟨rfl, hk1, hb1⟩
    have HK1 := Lib.hid hk1
    have HB1 := Lib.hid hb1
    clear hk1 hb1
    go_wp2_with fail
    refine (CD.out w1 HK1.out HB1.out).mono ?_; rintro e w2 ⟨v', rfl, ho2, hb2⟩
    have hB2 := HB1.out.trans (hb2.mono HB1.out.size)
    have hk2 := Below.blk hB2 HKZ.out.lt HKZ.out
    have c0 := hk2.cell (i := 0) rfl
    have c1 := hk2.cell (i := 1) rfl
    have f0 := hk2.frozen 0
    have f1 := hk2.frozen 1
    obtain ⟨va2, vc2, rfl⟩ := ho2.slice
    have HO2 := Lib.hid ho2
    have HB2 := Lib.hid (HBZ.out.trans (hB2.mono HBZ.out.size))
    have HK2 := Lib.hid hk2
    clear ho2 hb2 hk2 hB2
    go_wp2_with fail
    have hk3 := (HK2.out.set 0 (.int .i64 r.1)).set 1 (.slice va2 r.2.1.length vc2)
    have d0 := hk3.cell (i := 0) (v := .int .i64 r.1) rfl
    have d1 := hk3.cell (i := 1) (v := .slice va2 r.2.1.length vc2) rfl
    clear hk3 c0 c1 f0 f1
    have hw1 : w.heap.size < w1.heap.size := Nat.lt_of_lt_of_le HKZ.out.lt HB1.out.size
    exact bodyPost_ret (v := .tuple #[.agg #[.int .i64 r.1, .slice va2 r.2.1.length vc2], .int .i64 r.2.2]) (by simp [results, Try.results16, go_sem, d0, d1]) rfl ⟨.slice va2 r.2.1.length vc2, rfl,
      ((HO2.out.set_other (a := ⟨w.heap.size, 0, none⟩) hw1 _).set_other (a := ⟨w.heap.size, 1, none⟩) hw1 _).mono (Nat.le_of_lt hw1), (HB2.out.setCell (p := ⟨w.heap.size, 0, none⟩) (Nat.le_refl _) _).setCell (p := ⟨w.heap.size, 1, none⟩) (Nat.le_refl _) _⟩
  · have HD : Hid (decodeI p = (0, [], 2)) := by show _ = _; unfold decodeI; rw [if_neg hc]
    rw [HD.out]
    generalize sizeF p = s at *
    obtain ⟨s1, s2⟩ := s
    simp only at hc CF
    cases s2 with
    | false =>
      clear hc
      go_enter Try.func16, Try.ntmps16
      go_wp2_with fail
      rw [← HWZ.out]
      refine CF.out.mono ?_; rintro e w' ⟨rfl, rfl⟩
      have c0 := HKZ.out.cell (i := 0) rfl
      have c1 := HKZ.out.cell (i := 1) rfl
      have f0 := HKZ.out.frozen 0
      have f1 := HKZ.out.frozen 1
      go_wp2_with fail
      have hk3 := (HKZ.out.set 0 (.int .i64 0)).set 1 (.slice none 0 0)
      have d0 := hk3.cell (i := 0) (v := .int .i64 0) rfl
      have d1 := hk3.cell (i := 1) (v := .slice none 0 0) rfl
      clear hk3 c0 c1 f0 f1
      exact bodyPost_ret (v := .tuple #[.agg #[.int .i64 0, .slice none 0 0], .int .i64 2]) (by simp [results, Try.results16, go_sem, d0, d1]) rfl ⟨.slice none 0 0, rfl, World.ownsRow_nil _ _ _ _,
        (HBZ.out.setCell (p := ⟨w.heap.size, 0, none⟩) (Nat.le_refl _) _).setCell (p := ⟨w.heap.size, 1, none⟩) (Nat.le_refl _) _⟩
    | true =>
      have hne : ¬ s1 = (p.length : Int) := fun h => hc ⟨rfl, h⟩
      have hneq : (s1 == (p.length : Int)) = false := by simpa using hne
      clear hc hne
      go_enter Try.func16, Try.ntmps16
      go_wp2_with fail
      rw [← HWZ.out]
      refine CF.out.mono ?_; rintro e w' ⟨rfl, rfl⟩
      have c0 := HKZ.out.cell (i := 0) rfl
      have c1 := HKZ.out.cell (i := 1) rfl
      have f0 := HKZ.out.frozen 0
      have f1 := HKZ.out.frozen 1
      go_wp2_with fail
      have hk3 := (HKZ.out.set 0 (.int .i64 0)).set 1 (.slice none 0 0)
      have d0 := hk3.cell (i := 0) (v := .int .i64 0) rfl
      have d1 := hk3.cell (i := 1) (v := .slice none 0 0) rfl
      clear hk3 c0 c1 f0 f1
      exact bodyPost_ret (v := .tuple #[.agg #[.int .i64 0, .slice none 0 0], .int .i64 2]) (by simp [results, Try.results16, go_sem, d0, d1]) rfl ⟨.slice none 0 0, rfl, World.ownsRow_nil _ _ _ _,
        (HBZ.out.setCell (p := ⟨w.heap.size, 0, none⟩) (Nat.le_refl _) _).setCell (p := ⟨w.heap.size, 1, none⟩) (Nat.le_refl _) _⟩
end Go.Proofs.Yteccdbkgeomjeaa
