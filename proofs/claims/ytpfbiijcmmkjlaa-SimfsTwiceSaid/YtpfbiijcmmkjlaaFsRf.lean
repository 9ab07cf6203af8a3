/- The reference of layer 2 (rubricref02): 'open', 'turn', 'SyncDir', 'Remove', 'Rename' by what they make of a file system. -/
import Derived.Test.YtpfbiijcmmkjlaaFsRe
namespace Go.Proofs.Ytpfbiijcmmkjlaa
open Go.RowKit

/-- What 'open' answers. -/
def openR (R : RSt) (s : ByteArray) : Int × Int := if nameB s = false then (0, 7) else if findR R.dir s < 0 then (0, 3) else (findR R.dir s, 0)
set_option maxRecDepth 100000 in
set_option maxHeartbeats 1000000 in
theorem refOpen_any {P : Nat → Prop} (v : Value) (R : RSt) (s : ByteArray) (w : World) (h : RFs P w v R) (hk : ROk R) (hsz : s.size ≤ 9223372036854775807) :
    Calls Try.prog 51 #[v, .string s] w fun e w' => e = .returned (.tuple #[.int .i64 (openR R s).1, .int .i64 (openR R s).2]) ∧ Below w.heap.size w w' := by
  obtain ⟨fa, fc, da, dc, sa, sc, ca, cc, pa, pc, cvs, rfl, h1, h2, h3, h4, h5, h6, o1, o2, o3, o4, o5⟩ := h.parts
  have H2 := Lib.hid h2
  have HD := Lib.hid hk.dir
  have HO := Lib.hid (show openR R s = if nameB s = false then (0, 7) else if findR R.dir s < 0 then (0, 3) else (findR R.dir s, 0) from rfl)
  clear h1 h2 h3 h4 h5 h6 h hk o1 o2 o3 o4 o5
  go_enter Try.func51, Try.ntmps51
  have hbb : ∀ A, Below w.heap.size w (w.alloc A) := fun A => (Below.refl _ _).alloc (Nat.le_refl _) A
  have HBB := Lib.hid hbb
  clear hbb
  go_wp2_with fail
  refine calls_world fun w0 hw0 => ?_
  have hB0 : Below w.heap.size w w0 := by rw [hw0]; exact HBB.out _
  have hK0 : Blk w0 w.heap.size 33 [.int .i64 R.room, .slice fa R.files.length fc, .slice da R.dir.length dc, .slice sa R.sure.length sc, .slice ca R.changes.length cc, .int .i64 R.steps, .int .i64 R.left, .slice pa R.plan.length pc] := by rw [hw0]; exact Blk.new w 33 _
  have HB0 := Lib.hid hB0
  have HK0 := Lib.hid hK0
  clear hw0 hB0 hK0
  refine (good_any s w0 (by omega)).mono ?_; rintro e w1 ⟨rfl, rfl⟩
  have c2 := HK0.out.cell (i := 2) rfl
  have HF := Lib.hid (refFind_any _ R.dir s w0 (H2.out.below HB0.out) (by have := HD.out; omega))
  cases hg : nameB s with
  | false =>
    have hE : openR R s = (0, 7) := by rw [HO.out, if_pos hg]
    have HE := Lib.hid hE
    clear hE hg
    go_wp2_with fail
    go_ret2
    exact ⟨by rw [HE.out]; rfl, HB0.out⟩
  | true =>
    have hE : openR R s = if findR R.dir s < 0 then (0, 3) else (findR R.dir s, 0) := by rw [HO.out, if_neg (by rw [hg]; simp)]
    have HE := Lib.hid hE
    clear hE hg
    generalize findR R.dir s = q at HE HF
    go_wp2_with fail
    refine HF.out.mono ?_; rintro e w2 ⟨rfl, rfl⟩
    by_cases hq : q < 0
    · go_wp2_with fail
      go_ret2
      exact ⟨by rw [HE.out, if_pos hq]; rfl, HB0.out⟩
    · go_wp2_with fail
      go_ret2
      exact ⟨by rw [HE.out, if_neg (by omega)]; rfl, HB0.out⟩
/-- What 'turn' makes of it. -/
def turnS (R : RSt) (l : List RN) : RSt := { R with dir := turnR R.dir l, changes := R.changes ++ [l] }
theorem refTurnR {P : Nat → Prop} (v lv : Value) (R : RSt) (l : List RN) (w : World) (h : RFs P w v R) (hk : ROk R) (hl : RNames w lv l) (hll : l.length ≤ 2) (hlo : OwnIn P lv) :
    Calls Try.prog 50 #[v, lv] w fun e w' => ∃ v', e = .returned v' ∧ RFs (fun k => P k ∨ w.heap.size ≤ k) w' v' (turnS R l) ∧ Below w.heap.size w w' := by
  obtain ⟨fa, fc, da, dc, sa, sc, ca, cc, pa, pc, cvs, rfl, h1, h2, h3, h4, h5, h6, o1, o2, o3, o4, o5⟩ := h.parts
  refine (refTurn_any R.room R.steps R.left fa _ fc sa _ sc ca _ cc pa _ pc (.slice da R.dir.length dc) lv R.dir l w h2 hl (by have := hk.dir; omega) cvs h4 h5.one (by have := hk.changes; rw [h5.1]; omega)).mono ?_
  rintro e w' ⟨dv', cv', he, hd, hc, od, oc, hb⟩
  refine ⟨_, he, RFs.mk (R := turnS R l) (h1.below hb) hd (h3.below hb) hc ⟨by show _ = (R.changes ++ [l]).length; simp [h5.1], fun i c hi => ?_⟩ (h6.below hb) (o1.mono fun _ h => .inl h) (fun k hk => (od k hk).imp (o2 k) id) (o3.mono fun _ h => .inl h) (fun k hk => .inr (oc k hk)) (o5.mono fun _ h => .inl h), hb⟩
  have hi' : (R.changes ++ [l])[i]? = some c := hi
  by_cases hlt : i < R.changes.length
  · rw [List.getElem?_append_left hlt] at hi'
    obtain ⟨u, e1, e2, e3⟩ := h5.2 i c hi'
    exact ⟨u, by rw [List.getElem?_append_left (by rw [h5.1]; exact hlt)]; exact e1, e2.below hb, e3.mono fun _ h => .inl h⟩
  · rw [List.getElem?_append_right (by omega)] at hi'
    have h0 : i - R.changes.length = 0 := by
      by_cases h : i - R.changes.length = 0
      · exact h
      · rw [List.getElem?_eq_none (by simp; omega)] at hi'; cases hi'
    rw [h0] at hi'
    obtain rfl : l = c := by simpa using hi'
    exact ⟨lv, by rw [List.getElem?_append_right (by rw [h5.1]; omega), h5.1, h0]; rfl, hl.below hb, hlo.mono fun _ h => .inl h⟩
/-- What 'SyncDir' makes of it, and the error. -/
def syncDirR (R : RSt) : RSt × Int := if (stepR R).2.2 = 0 then ({ (stepR R).1 with sure := (stepR R).1.dir, changes := [] }, 0) else ((stepR R).1, (stepR R).2.2)
set_option maxRecDepth 100000 in
set_option maxHeartbeats 2000000 in
theorem refSyncDir_any {P : Nat → Prop} (v : Value) (R : RSt) (w : World) (h : RFs P w v R) (hk : ROk R) :
    Calls Try.prog 22 #[v] w fun e w' => ∃ v', e = .returned (.tuple #[v', .int .i64 (syncDirR R).2]) ∧ RFs P w' v' (syncDirR R).1 ∧ Below w.heap.size w w' := by
  have HO := Lib.hid (show syncDirR R = if (stepR R).2.2 = 0 then ({ (stepR R).1 with sure := (stepR R).1.dir, changes := [] }, 0) else ((stepR R).1, (stepR R).2.2) from rfl)
  have hP := h.lt
  have HS := Lib.hid (fun (w0 : World) (hb : Below w.heap.size w w0) => refStepR v R w0 (hP.below hb) hk)
  generalize syncDirR R = Z at HO
  generalize stepR R = T at HO HS
  obtain ⟨T1, T2, T3⟩ := T
  obtain ⟨fa, fc, da, dc, sa, sc, ca, cc, pa, pc, cvs, rfl, h1, h2, h3, h4, h5, h6, o1, o2, o3, o4, o5⟩ := h.parts
  clear h1 h2 h3 h4 h5 h6 h hk hP o1 o2 o3 o4 o5
  go_enter Try.func22, Try.ntmps22
  go_wp2_with fail
  refine calls_world fun w0 hw0 => ?_
  have hB0 : Below w.heap.size w w0 := by rw [hw0]; exact ((Below.refl _ _).alloc (Nat.le_refl _) _).alloc (by simp) _
  have hK0 : Blk w0 w.heap.size 33 [.int .i64 R.room, .slice fa R.files.length fc, .slice da R.dir.length dc, .slice sa R.sure.length sc, .slice ca R.changes.length cc, .int .i64 R.steps, .int .i64 R.left, .slice pa R.plan.length pc] := by rw [hw0]; exact (Blk.new w 33 [.int .i64 R.room, .slice fa R.files.length fc, .slice da R.dir.length dc, .slice sa R.sure.length sc, .slice ca R.changes.length cc, .int .i64 R.steps, .int .i64 R.left, .slice pa R.plan.length pc]).alloc _
  have hK1 : Blk w0 (w.heap.size + 1) 33 zeroC := by
    rw [hw0]
    have := Blk.new (w.alloc (.cells #[.int .i64 R.room, .slice fa R.files.length fc, .slice da R.dir.length dc, .slice sa R.sure.length sc, .slice ca R.changes.length cc, .int .i64 R.steps, .int .i64 R.left, .slice pa R.plan.length pc] 33)) 33 zeroC
    rw [World.size_alloc] at this
    exact this
  have HB0 := Lib.hid hB0
  have HK0 := Lib.hid hK0
  have HK1 := Lib.hid hK1
  clear hw0 hB0 hK0 hK1
  refine (HS.out w0 HB0.out).mono ?_; rintro e w1 ⟨v1, rfl, hR1, hb1⟩
  have hR1' := hR1.below hb1
  obtain ⟨fa1, fc1, da1, dc1, sa1, sc1, ca1, cc1, pa1, pc1, cvs1, rfl, -⟩ := hR1.parts
  obtain ⟨room1, files1, dir1, sure1, changes1, steps1, left1, plan1⟩ := T1
  simp only at HO hR1 hR1'
  have hk0 := (show Blk w1 w.heap.size 33 _ from (hb1.block _ HK0.out.lt).trans HK0.out)
  have hk1 := (show Blk w1 (w.heap.size + 1) 33 zeroC from (hb1.block _ HK1.out.lt).trans HK1.out)
  obtain ⟨x0, x1, x2, x3, x4, x5, x6, x7, y0, y1, y2, y3, y4, y5, y6, y7⟩ := hk0.fs
  have HB1 := Lib.hid (HB0.out.trans (hb1.mono HB0.out.size))
  have HKA := Lib.hid (putFS_blk hk0 (.int .i64 room1) (.slice fa1 files1.length fc1) (.slice da1 dir1.length dc1) (.slice sa1 sure1.length sc1) (.slice ca1 changes1.length cc1) (.int .i64 steps1) (.int .i64 left1) (.slice pa1 plan1.length pc1))
  have HKB := Lib.hid hk1
  have HR1 := Lib.hid hR1'
  clear hR1 hR1' hk0 hk1 hb1
  go_upto_region 2 with fail
  refine wp_world fun w2 hw2 => ?_
  have hk0 : Blk w2 w.heap.size 33 [.int .i64 room1, .slice fa1 files1.length fc1, .slice da1 dir1.length dc1, .slice sa1 sure1.length sc1, .slice ca1 changes1.length cc1, .int .i64 steps1, .int .i64 left1, .slice pa1 plan1.length pc1] := by rw [hw2]; exact HKA.out
  have hk1 : Blk w2 (w.heap.size + 1) 33 zeroC := by rw [hw2]; exact (putFS_other (w := w1) (show w.heap.size + 1 ≠ w.heap.size by omega) _ _ _ _ _ _ _ _).trans HKB.out
  have hB2 : Below w.heap.size w w2 := by rw [hw2]; exact putFS_below HB1.out (Nat.le_refl _) _ _ _ _ _ _ _ _
  have hR2 : RFs (fun k => P k ∧ k < w.heap.size) w2 (.agg #[.int .i64 room1, .slice fa1 files1.length fc1, .slice da1 dir1.length dc1, .slice sa1 sure1.length sc1, .slice ca1 changes1.length cc1, .int .i64 steps1, .int .i64 left1, .slice pa1 plan1.length pc1]) ⟨room1, files1, dir1, sure1, changes1, steps1, left1, plan1⟩ := by
    rw [hw2]; exact HR1.out.to fun k hk => putFS_other (w := w1) (Nat.ne_of_lt hk.2) _ _ _ _ _ _ _ _
  clear hw2 x0 x1 x2 x3 x4 x5 x6 x7 y0 y1 y2 y3 y4 y5 y6 y7 HKA HKB HR1 HB1 HK0 HK1 HB0
  obtain ⟨x0, x1, x2, x3, x4, x5, x6, x7, y0, y1, y2, y3, y4, y5, y6, y7⟩ := hk0.fs
  obtain ⟨p0, p1, p2, p3, p4, p5, p6, p7, q0, q1, q2, q3, q4, q5, q6, q7⟩ := (show Blk w2 (w.heap.size + 1) 33 [.int .i64 0, .slice none 0 0, .slice none 0 0, .slice none 0 0, .slice none 0 0, .int .i64 0, .int .i64 0, .slice none 0 0] from hk1).fs
  have HB2 := Lib.hid hB2
  have HR2 := Lib.hid hR2
  have HK0 := Lib.hid hk0
  have HK1 := Lib.hid hk1
  clear hk0 hk1 hB2 hR2
  by_cases h3 : T3 = 0
  · subst h3
    rw [if_pos rfl] at HO
    obtain ⟨fv, dv, sv, cv, pv, cvs', hv, g1, g2, g3, g4, g5, g6, o1, o2, o3, o4, o5⟩ := HR2.out
    injection hv with hv
    have hv : [Value.int .i64 room1, .slice fa1 files1.length fc1, .slice da1 dir1.length dc1, .slice sa1 sure1.length sc1, .slice ca1 changes1.length cc1, .int .i64 steps1, .int .i64 left1, .slice pa1 plan1.length pc1] = [.int .i64 room1, fv, dv, sv, cv, .int .i64 steps1, .int .i64 left1, pv] := congrArg Array.toList hv
    simp only [List.cons.injEq, and_true, true_and] at hv
    obtain ⟨rfl, rfl, rfl, rfl, rfl⟩ := hv
    have HN := Lib.hid (RFs.mk (P := fun k => P k ∧ k < w.heap.size) (w := w2) (R := ⟨room1, files1, dir1, dir1, [], steps1, left1, plan1⟩) g1 g2 g2 (.inl ⟨rfl, rfl⟩) ⟨rfl, fun i c h => by cases h⟩ g6 o1 o2 o2 (fun k hk => by cases hk) o5)
    clear g1 g2 g3 g4 g5 g6 o1 o2 o3 o4 o5 cvs'
    have HKA := Lib.hid ((HK0.out.set 3 (.slice da1 dir1.length dc1)).set 4 (.slice none 0 0))
    go_upto_region 6 with fail
    refine wp_world fun w3 hw3 => ?_
    have hk0 : Blk w3 w.heap.size 33 [.int .i64 room1, .slice fa1 files1.length fc1, .slice da1 dir1.length dc1, .slice da1 dir1.length dc1, .slice none 0 0, .int .i64 steps1, .int .i64 left1, .slice pa1 plan1.length pc1] := by rw [hw3]; exact HKA.out
    have hk1 : Blk w3 (w.heap.size + 1) 33 zeroC := by rw [hw3]; exact (HK1.out.set_other (a := ⟨w.heap.size, 3, none⟩) (show w.heap.size + 1 ≠ w.heap.size by omega) _).set_other (a := ⟨w.heap.size, 4, none⟩) (show w.heap.size + 1 ≠ w.heap.size by omega) _
    have hB3 : Below w.heap.size w w3 := by rw [hw3]; exact (HB2.out.setCell (p := ⟨w.heap.size, 3, none⟩) (Nat.le_refl _) _).setCell (p := ⟨w.heap.size, 4, none⟩) (Nat.le_refl _) _
    have hR3 := HN.out.to (w' := w3) fun k hk => by
      have h1 : k ≠ w.heap.size := Nat.ne_of_lt hk.2
      rw [hw3, heap_setCell_other _ _ k _ h1, heap_setCell_other _ _ k _ h1]
    clear hw3 x0 x1 x2 x3 x4 x5 x6 x7 y0 y1 y2 y3 y4 y5 y6 y7 p0 p1 p2 p3 p4 p5 p6 p7 q0 q1 q2 q3 q4 q5 q6 q7 HKA HN HB2 HR2 HK0 HK1
    obtain ⟨x0, x1, x2, x3, x4, x5, x6, x7, y0, y1, y2, y3, y4, y5, y6, y7⟩ := hk0.fs
    obtain ⟨p0, p1, p2, p3, p4, p5, p6, p7, q0, q1, q2, q3, q4, q5, q6, q7⟩ := (show Blk w3 (w.heap.size + 1) 33 [.int .i64 0, .slice none 0 0, .slice none 0 0, .slice none 0 0, .slice none 0 0, .int .i64 0, .int .i64 0, .slice none 0 0] from hk1).fs
    have HB3 := Lib.hid hB3
    have HR3 := Lib.hid hR3
    have HK1 := Lib.hid hk1
    clear hk0 hk1 hB3 hR3
    go_wp2_with fail
    have hkF := putFS_blk HK1.out (.int .i64 room1) (.slice fa1 files1.length fc1) (.slice da1 dir1.length dc1) (.slice da1 dir1.length dc1) (.slice none 0 0) (.int .i64 steps1) (.int .i64 left1) (.slice pa1 plan1.length pc1)
    obtain ⟨d0, d1, d2, d3, d4, d5, d6, d7, -⟩ := hkF.fs
    unfold putFS at d0 d1 d2 d3 d4 d5 d6 d7
    refine bodyPost_ret (v := .tuple #[.agg #[.int .i64 room1, .slice fa1 files1.length fc1, .slice da1 dir1.length dc1, .slice da1 dir1.length dc1, .slice none 0 0, .int .i64 steps1, .int .i64 left1, .slice pa1 plan1.length pc1], .int .i64 0]) (by simp [results, Try.results22, go_sem, d0, d1, d2, d3, d4, d5, d6, d7]) rfl ⟨_, by rw [HO.out], ?_, ?_⟩
    · rw [HO.out]; exact (HR3.out.to fun k hk => putFS_other (show k ≠ w.heap.size + 1 by have := hk.2; omega) _ _ _ _ _ _ _ _).mono fun _ hk => hk.1
    · exact putFS_below HB3.out (by omega) _ _ _ _ _ _ _ _
  · rw [if_neg h3] at HO
    go_wp2_with fail
    have hkF := putFS_blk HK1.out (.int .i64 room1) (.slice fa1 files1.length fc1) (.slice da1 dir1.length dc1) (.slice sa1 sure1.length sc1) (.slice ca1 changes1.length cc1) (.int .i64 steps1) (.int .i64 left1) (.slice pa1 plan1.length pc1)
    obtain ⟨d0, d1, d2, d3, d4, d5, d6, d7, -⟩ := hkF.fs
    unfold putFS at d0 d1 d2 d3 d4 d5 d6 d7
    refine bodyPost_ret (v := .tuple #[.agg #[.int .i64 room1, .slice fa1 files1.length fc1, .slice da1 dir1.length dc1, .slice sa1 sure1.length sc1, .slice ca1 changes1.length cc1, .int .i64 steps1, .int .i64 left1, .slice pa1 plan1.length pc1], .int .i64 T3]) (by simp [results, Try.results22, go_sem, d0, d1, d2, d3, d4, d5, d6, d7]) rfl ⟨_, by rw [HO.out], ?_, ?_⟩
    · rw [HO.out]; exact (HR2.out.to fun k hk => putFS_other (show k ≠ w.heap.size + 1 by have := hk.2; omega) _ _ _ _ _ _ _ _).mono fun _ hk => hk.1
    · exact putFS_below HB2.out (by omega) _ _ _ _ _ _ _ _
end Go.Proofs.Ytpfbiijcmmkjlaa
