/- Package manifest: its bytes, as the program makes them. -/
import Derived.Test.YtkdjkmnalkalpaaGreatDoorMfD
import Derived.Deep.RegionHeld
namespace Go.Proofs.YtkdjkmnalkalpaaGreatDoor
open Go.RowKit
set_option maxRecDepth 100000

theorem two_rows {w : World} {u1 u2 : Value} {p1 p2 : List Int} {t : TypeId} (h1 : Fr.Bytes w u1 p1) (h2 : Fr.Bytes w u2 p2) : Fr.Parts (w.alloc (.cells #[u1, u2] t)) (.slice (some ⟨w.heap.size, 0, none⟩) 2 2) [p1, p2] := by
  have hb : Below w.heap.size w (w.alloc (.cells #[u1, u2] t)) := (Below.refl _ _).alloc (Nat.le_refl _) _
  have hk := Blk.new w t [u1, u2]
  refine .inr ⟨w.heap.size, 0, 2, rfl, by simp, fun i hi => ?_⟩
  match i, hi with
  | 0, _ => exact ⟨u1, by rw [Nat.zero_add]; exact hk.cell (i := 0) rfl, .inl (h1.below hb)⟩
  | 1, _ => exact ⟨u2, by rw [Nat.zero_add]; exact hk.cell (i := 1) rfl, .inl (h2.below hb)⟩
theorem blk_stay {w w' : World} {b : Nat} {t : TypeId} {cs : List Value} (hb : Below w.heap.size w w') (h : Blk w b t cs) : Blk w' b t cs := (hb.block _ h.lt).trans h
theorem own_low {w : World} {b b' : Nat} {v : Value} {ys : List Int} (h : Fr.OwnB w b v ys) (hb : b' ≤ b) : Fr.OwnB w b' v ys := by
  refine ⟨h.1, h.2.imp id fun ⟨g, cap, cur, h1, h2, h3⟩ => ⟨g, cap, cur, h1, Nat.le_trans hb h2, h3⟩⟩
def EncQ (w : World) (n : Int) (ns : List Int) (e : Ending) (w' : World) : Prop :=
  Below w.heap.size w w' ∧ ((GoodM n ns ∧ ∃ u, e = .returned (.tuple #[u, .int .i64 0]) ∧ Fr.OwnB w' w.heap.size u (manB n ns)) ∨ (¬ GoodM n ns ∧ e = .returned (.tuple #[.slice none 0 0, .int .i64 1])))
set_option maxHeartbeats 8000000 in
theorem encM_any (n : Int) (v : Value) (ns : List Int) (w : World) (hv : IntsW w v ns) (hl : ns.length < 9223372036854775808) (ht : Tab w) :
    Calls Tryz.prog 28 #[.agg #[.int .i64 n, v]] w (EncQ w n ns) := by
  obtain ⟨va, vc, rfl⟩ := hv.slice
  have hbx : Below w.heap.size w (w.alloc (.cells #[.int .i64 n, .slice va ns.length vc] 37)) := (Below.refl _ _).alloc (Nat.le_refl _) _
  have hkx : Blk (w.alloc (.cells #[.int .i64 n, .slice va ns.length vc] 37)) w.heap.size 37 [.int .i64 n, .slice va ns.length vc] := Blk.new w _ _
  obtain ⟨wx, hwx⟩ : ∃ wx, wx = w.alloc (.cells #[.int .i64 n, .slice va ns.length vc] 37) := ⟨_, rfl⟩
  rw [← hwx] at hbx hkx
  have HCK := Lib.hid (check_any n (.slice va ns.length vc) ns wx (hv.below hbx) hl (ht.below hbx))
  have HV := Lib.hid hv
  have HT := Lib.hid ht
  have HBX := Lib.hid hbx
  have HKX := Lib.hid hkx
  clear hv ht hbx
  go_enter Tryz.func28, Tryz.ntmps28
  go_upto_region 1 with fail
  rw [← hwx]
  have x0 := hkx.cell (i := 0) rfl
  have x1 := hkx.cell (i := 1) rfl
  clear hwx hkx
  go_wp2_with fail
  refine HCK.out.mono ?_; rintro e w1 ⟨rfl, hb1⟩
  clear x0 x1 HCK
  by_cases hg : GoodM n ns
  · have hc : codeM n ns = 0 := if_pos hg
    rw [hc]
    have hk1 := (hb1.block _ HKX.out.lt).trans HKX.out
    have HK1 := Lib.hid (show Blk w1 w.heap.size 37 [.int .i64 n, .slice va ns.length vc] from hk1)
    have HB1 := Lib.hid (HBX.out.trans (hb1.mono HBX.out.size))
    have HLN := Lib.hid (fun (W : World) (hb : Below w1.heap.size w1 W) => line_any n W (by have := hg.1; omega) hg.1.2 (HT.out.below (HB1.out.trans (hb.mono HB1.out.size))))
    have HLS := Lib.hid (fun (W : World) (hb : Below w1.heap.size w1 W) => lines_any (.slice va ns.length vc) ns W ((HV.out.ints hg.2.1.1).below (HB1.out.trans (hb.mono HB1.out.size))) (by have := hg.2.1; omega) (fun x hx => by have := risB_mem hg.2.2 x hx; omega) (HT.out.below (HB1.out.trans (hb.mono HB1.out.size))))
    have HEN := Lib.hid (fun (W : World) (u : Value) (hp : Fr.Parts W u [lineI n, linesI ns]) => Fr.encode_any 9 u [lineI n, linesI ns] W (by omega) (by omega) hp (by simp) (fun i hi => by
      have h1 := lineI_len hg.1.2
      have h2 := linesI_len (ns := ns) fun x hx => (risB_mem hg.2.2 x hx).2
      have h3 := hg.2.1.2
      match i, hi with
      | 0, _ => exact ⟨by show (lineI n).length < _; omega, lineI_byt n⟩
      | 1, _ => exact ⟨by show (linesI ns).length < _; omega, linesI_byt ns⟩) (by
      have := textM_len hg
      unfold textM at this
      simpa using (show (lineI n ++ linesI ns).length ≤ 8192 by omega)))
    have HG := Lib.hid hg
    clear hb1 hk1 hc hl hg
    obtain ⟨x0, x1⟩ : w1.cell? ⟨w.heap.size, 0, none⟩ = some (.int .i64 n) ∧ w1.cell? ⟨w.heap.size, 1, none⟩ = some (.slice va ns.length vc) := ⟨HK1.out.cell (i := 0) rfl, HK1.out.cell (i := 1) rfl⟩
    have HBD : Hid (Below w1.heap.size w1 w1.drew) := ⟨rfl, rfl, rfl, Nat.le_refl _, fun _ _ => rfl⟩
    have HEQ : Hid (Fr.frameI 9 [lineI n, linesI ns].flatten = manB n ns) := by
      show _ = _
      unfold manB textM
      simp
    go_upto_region 4 with fail
    go_region_with (first
      | (go_at_call 89; refine (HLN.out _ HBD.out).mono ?_; rintro e w2 ⟨u1, rfl, ho1, hb2⟩; obtain ⟨ga, gc, rfl⟩ := ho1.slice; have HO1 := Lib.hid ho1; have HB2 := Lib.hid (HBD.out.trans (hb2.mono HBD.out.size)); clear hb2 ho1; obtain ⟨y0, y1⟩ : w2.cell? ⟨w.heap.size, 0, none⟩ = some (.int .i64 n) ∧ w2.cell? ⟨w.heap.size, 1, none⟩ = some (.slice va ns.length vc) := ⟨(blk_stay HB2.out HK1.out).cell (i := 0) rfl, (blk_stay HB2.out HK1.out).cell (i := 1) rfl⟩)
      | (go_at_call 90; refine (HLS.out _ HB2.out).mono ?_; rintro e w3 ⟨u2, rfl, ho2, hb3⟩; obtain ⟨gb, gd, rfl⟩ := ho2.slice; have HO2 := Lib.hid ho2.bytes; have HO1' := Lib.hid (HO1.out.keep hb3).bytes; have HB3 := Lib.hid (HB2.out.trans (hb3.mono HB2.out.size)); clear hb3 ho2)
      | (go_at_call 88; refine (HEN.out _ _ (two_rows HO1'.out HO2.out)).mono ?_; rintro e w4 ⟨u3, rfl, ho3, hb4⟩; rw [HEQ.out] at ho3; obtain ⟨gc, ge, rfl⟩ := ho3.slice; have HO3 := Lib.hid ho3; have HB4 := Lib.hid hb4; clear hb4 ho3))
    all_goals
      have hend : Below w.heap.size w w4 := (HB1.out.trans (HB3.out.mono HB1.out.size)).trans (((Below.refl _ _).alloc (Nat.le_trans HB1.out.size HB3.out.size) _).trans (HB4.out.mono (by simp; exact Nat.le_succ_of_le (Nat.le_trans HB1.out.size HB3.out.size))))
      have hown : Fr.OwnB w4 w.heap.size (.slice gc (manB n ns).length ge) (manB n ns) := own_low HO3.out (by simp; exact Nat.le_succ_of_le (Nat.le_trans HB1.out.size HB3.out.size))
      have HEND := Lib.hid hend
      have HOWN := Lib.hid hown
      clear hend hown
    all_goals go_wp2_with fail
    all_goals go_ret2
    all_goals exact ⟨HEND.out, .inl ⟨HG.out, _, rfl, HOWN.out⟩⟩
  · have hc : codeM n ns = 1 := if_neg hg
    rw [hc]
    have HB1 := Lib.hid (HBX.out.trans (hb1.mono HBX.out.size))
    clear hb1 hc
    go_wp2_with fail
    go_ret2
    exact ⟨HB1.out, .inr ⟨hg, rfl⟩⟩
end Go.Proofs.YtkdjkmnalkalpaaGreatDoor
