/- Package manifest: the statements' small functions: numbers compared, a manifest as the document has it, and compared. -/
import Derived.Test.YtkdjkmnalkalpaaGreatDoorMfX
import Derived.BigQuiet
import Derived.Deep.QuietTactic
namespace Go.Proofs.YtkdjkmnalkalpaaGreatDoor
open Go.RowKit
set_option maxRecDepth 100000

set_option maxHeartbeats 4000000 in
theorem refInts_any (u v : Value) (xs ys : List Int) (w : World) (hu : Ints w u xs) (hv : Ints w v ys) (hl : xs.length < 9223372036854775807) (hl2 : ys.length < 9223372036854775808) :
    Calls Tryz.prog 27 #[u, v] w fun e w' => e = .returned (.bool (decide (xs = ys))) ∧ Below w.heap.size w w' := by
  obtain ⟨ua, uc, rfl⟩ := hu.slice
  obtain ⟨va, vc, rfl⟩ := hv.slice
  have HU := Lib.hid hu
  have HV := Lib.hid hv
  clear hu hv
  go_enter Tryz.func27, Tryz.ntmps27
  by_cases hxy : xs.length = ys.length
  · have l1 : (xs.length : Int) = ys.length := by omega
    go_wp2_with fail
    go_loopw [13] (fun s13 wr => ∃ i : Nat, i ≤ xs.length ∧ s13 = .int .i64 i ∧ xs.take i = ys.take i ∧ Below w.heap.size w wr) (fun s13 _ => xs.length - (intOf s13).toNat)
    case atStart => exact ⟨0, by omega, rfl, rfl, Below.refl _ _⟩
    case round =>
      obtain ⟨i, hi, rfl, htk, hb⟩ := hrel
      have HTK := Lib.hid htk
      have HB := Lib.hid hb
      clear htk hb
      by_cases hlt : i < xs.length
      · have hlt2 : i < ys.length := by omega
        obtain ⟨b, o, cap, e, hbl, hrg⟩ : ∃ b o cap, Value.slice ua xs.length uc = .slice (some ⟨b, o, none⟩) xs.length cap ∧ b < w.heap.size ∧ w.rangeAt b o (xs.map (Value.int .i64)) := by
          rcases HU.out with ⟨e, h0⟩ | ⟨b, o, cap, e, h1, h2⟩
          · subst h0; simp at hlt
          · exact ⟨b, o, cap, e, h1, h2⟩
        cases e
        obtain ⟨b', o', cap', e, hbl', hrg'⟩ : ∃ b o cap, Value.slice va ys.length vc = .slice (some ⟨b, o, none⟩) ys.length cap ∧ b < w.heap.size ∧ w.rangeAt b o (ys.map (Value.int .i64)) := by
          rcases HV.out with ⟨e, h0⟩ | ⟨b, o, cap, e, h1, h2⟩
          · subst h0; simp at hlt2
          · exact ⟨b, o, cap, e, h1, h2⟩
        cases e
        have hc : wr.cell? ⟨b, o + i, none⟩ = some (.int .i64 (xs.getD i 0)) := by
          rw [World.cell?_of_block (w := w) (HB.out.block b hbl)]
          exact hrg i _ (by rw [List.getElem?_map, List.getD_eq_getElem?_getD, List.getElem?_eq_getElem hlt]; rfl)
        have hc' : wr.cell? ⟨b', o' + i, none⟩ = some (.int .i64 (ys.getD i 0)) := by
          rw [World.cell?_of_block (w := w) (HB.out.block b' hbl')]
          exact hrg' i _ (by rw [List.getElem?_map, List.getD_eq_getElem?_getD, List.getElem?_eq_getElem hlt2]; rfl)
        have HS1 : Hid (xs.take (i + 1) = xs.take i ++ [xs.getD i 0]) := by show _ = _; rw [List.take_succ_eq_append_getElem hlt, List.getD_eq_getElem?_getD, List.getElem?_eq_getElem hlt]; rfl
        have HS2 : Hid (ys.take (i + 1) = ys.take i ++ [ys.getD i 0]) := by show _ = _; rw [List.take_succ_eq_append_getElem hlt2, List.getD_eq_getElem?_getD, List.getElem?_eq_getElem hlt2]; rfl
        have HG1 : Hid (xs[i]? = some (xs.getD i 0)) := by show _ = _; rw [List.getD_eq_getElem?_getD, List.getElem?_eq_getElem hlt]; rfl
        have HG2 : Hid (ys[i]? = some (ys.getD i 0)) := by show _ = _; rw [List.getD_eq_getElem?_getD, List.getElem?_eq_getElem hlt2]; rfl
        have HBD := Lib.hid HB.out.drew
        have l2 : (i : Int) < ys.length := by omega
        have l3 : (i : Int) < xs.length := by omega
        generalize xs.getD i 0 = x at *
        generalize ys.getD i 0 = y at *
        clear hrg hrg'
        go_upto_region 6 with fail
        go_region
        by_cases he : x = y
        · subst he
          go_wp2_with fail
          go_roundw
          case rel => exact ⟨i + 1, by omega, by go_num, by rw [HS1.out, HS2.out, HTK.out], HBD.out⟩
          case measure => simp [intOf]; omega
        · have HE : Hid (decide (xs = ys) = false) := by
            show _ = _
            rw [decide_eq_false]
            intro e
            have h1 := HG1.out
            rw [e, HG2.out] at h1
            exact he (Option.some.inj h1).symm
          go_wp2_with fail
          go_ret
          exact ⟨by rw [HE.out]; rfl, HBD.out⟩
      · have l3 : ¬ (i : Int) < xs.length := by omega
        have HE : Hid (decide (xs = ys) = true) := by
          show _ = _
          rw [decide_eq_true]
          have h1 := HTK.out
          rw [List.take_of_length_le (by omega), List.take_of_length_le (by omega)] at h1
          exact h1
        go_wp2_with fail
        go_ret
        exact ⟨by rw [HE.out]; rfl, HB.out⟩
  · have l1 : ¬ (xs.length : Int) = ys.length := by omega
    have HE : Hid (decide (xs = ys) = false) := by
      show _ = _
      rw [decide_eq_false]
      intro e
      exact hxy (by rw [e])
    go_wp2_with fail
    go_ret
    exact ⟨by rw [HE.out]; rfl, Below.refl _ _⟩
set_option maxHeartbeats 4000000 in
theorem same5_any (n m : Int) (u v : Value) (xs ys : List Int) (w : World) (hu : Ints w u xs) (hv : Ints w v ys) (hl : xs.length < 9223372036854775807) (hl2 : ys.length < 9223372036854775808) :
    Calls Tryz.prog 25 #[.agg #[.int .i64 n, u], .agg #[.int .i64 m, v]] w fun e w' => e = .returned (.bool (decide (n = m ∧ xs = ys))) ∧ Below w.heap.size w w' := by
  obtain ⟨ua, uc, rfl⟩ := hu.slice
  obtain ⟨va, vc, rfl⟩ := hv.slice
  obtain ⟨wx, hwx⟩ : ∃ wx, wx = (w.alloc (.cells #[.int .i64 n, .slice ua xs.length uc] 37)).alloc (.cells #[.int .i64 m, .slice va ys.length vc] 48) := ⟨_, rfl⟩
  have hbx : Below w.heap.size w wx := by rw [hwx]; exact ((Below.refl _ _).alloc (Nat.le_refl _) _).alloc (by simp) _
  have HRI := Lib.hid (fun (W : World) (hb : Below wx.heap.size wx W) => refInts_any _ _ xs ys W ((hu.below hbx).below hb) ((hv.below hbx).below hb) hl hl2)
  have HBX := Lib.hid hbx
  have HBD : Hid (Below wx.heap.size wx wx.drew) := ⟨rfl, rfl, rfl, Nat.le_refl _, fun _ _ => rfl⟩
  clear hu hv
  go_enter Tryz.func25, Tryz.ntmps25
  go_upto_region 1 with fail
  rw [← hwx]
  have hk1 : Blk wx w.heap.size 37 [.int .i64 n, .slice ua xs.length uc] := by
    rw [hwx]
    exact blk_stay ((Below.refl _ _).alloc (Nat.le_refl _) _) (Blk.new w _ _)
  have hk2 : Blk wx (w.heap.size + 1) 48 [.int .i64 m, .slice va ys.length vc] := by
    rw [hwx]
    have := Blk.new (w.alloc (.cells #[.int .i64 n, .slice ua xs.length uc] 37)) 48 [.int .i64 m, .slice va ys.length vc]
    rw [World.size_alloc] at this
    exact this
  clear hwx hbx
  have x0 := hk1.cell (i := 0) rfl
  have x1 := hk1.cell (i := 1) rfl
  have y0 := hk2.cell (i := 0) rfl
  have y1 := hk2.cell (i := 1) rfl
  by_cases hnm : n = m
  · subst hnm
    go_wp2_with fail
    refine (HRI.out wx (Below.refl _ _)).mono ?_; rintro e w2 ⟨rfl, hb2⟩
    have HB2 := Lib.hid (HBX.out.trans (hb2.mono HBX.out.size))
    clear hb2
    go_wp2_with fail
    go_ret
    exact ⟨by first | rfl | simp, HB2.out⟩
  · have HE : Hid (decide (n = m ∧ xs = ys) = false) := by show _ = _; simp [hnm]
    go_wp2_with fail
    go_ret
    exact ⟨by rw [HE.out]; rfl, HBX.out⟩
end Go.Proofs.YtkdjkmnalkalpaaGreatDoor
