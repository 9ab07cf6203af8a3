/- The reference of layer 2 (rubricref02): 'open', 'turn', 'SyncDir', 'Remove', 'Rename' by what they make of a file system. The reference of layer 2 (rubricref02): 'Remove' by what it makes of a file system. The reference of layer 2 (rubricref02): 'Rename' by what it makes of a file system. Names in order: what 'with' makes of them; how a directory that is a map tells the same as names in order. Plain; nothing is walked. The reference of layer 2 (rubricref02): rows of files of one's own; 'New', 'Used'. The reference of layer 2 (rubricref02): 'set' by what it makes of a file system. The reference of layer 2 (rubricref02): 'Sync' by what it makes of a file system. -/
import Derived.Test.YtigbgajelkknbaaGreatDoorFsRe
import Derived.Sort.Walk0
namespace Go.Proofs.YtigbgajelkknbaaGreatDoor
open Go.RowKit
set_option maxRecDepth 100000

/-- What 'open' answers. -/
def openR (R : RSt) (s : ByteArray) : Int × Int := if nameB s = false then (0, 7) else if findR R.dir s < 0 then (0, 3) else (findR R.dir s, 0)
set_option maxRecDepth 100000 in
set_option maxHeartbeats 1000000 in
theorem refOpen_any {P : Nat → Prop} (v : Value) (R : RSt) (s : ByteArray) (w : World) (h : RFs P w v R) (hk : ROk R) (hsz : s.size ≤ 9223372036854775807) :
    Calls Tryz.prog 113 #[v, .string s] w fun e w' => e = .returned (.tuple #[.int .i64 (openR R s).1, .int .i64 (openR R s).2]) ∧ Below w.heap.size w w' := by
  obtain ⟨fa, fc, da, dc, sa, sc, ca, cc, pa, pc, cvs, rfl, h1, h2, h3, h4, h5, h6, o1, o2, o3, o4, o5⟩ := h.parts
  have H2 := Lib.hid h2
  have HD := Lib.hid hk.dir
  have HO := Lib.hid (show openR R s = if nameB s = false then (0, 7) else if findR R.dir s < 0 then (0, 3) else (findR R.dir s, 0) from rfl)
  clear h1 h2 h3 h4 h5 h6 h hk o1 o2 o3 o4 o5
  go_enter Tryz.func113, Tryz.ntmps113
  have hbb : ∀ A, Below w.heap.size w (w.alloc A) := fun A => (Below.refl _ _).alloc (Nat.le_refl _) A
  have HBB := Lib.hid hbb
  clear hbb
  go_wp2_with fail
  refine calls_world fun w0 hw0 => ?_
  have hB0 : Below w.heap.size w w0 := by rw [hw0]; exact HBB.out _
  have hK0 : Blk w0 w.heap.size 33 [.int .i64 R.room, .slice fa R.files.length fc, .slice da R.dir.length dc, .slice sa R.sure.length sc, .slice ca R.changes.length cc, .int .i64 R.steps, .int .i64 R.left, .slice pa R.plan.length pc] := by rw [hw0]; exact Blk.new w 33 _
  have HB0 := Lib.hid hB0
  have HK0 := Lib.hid hK0
  clear hw0 hB0 hK0
  refine (good_any s w0 (by omega)).mono ?_; rintro e w1 ⟨rfl, rfl⟩
  have c2 := HK0.out.cell (i := 2) rfl
  have HF := Lib.hid (refFind_any _ R.dir s w0 (H2.out.below HB0.out) (by have := HD.out; omega))
  cases hg : nameB s with
  | false =>
    have hE : openR R s = (0, 7) := by rw [HO.out, if_pos hg]
    have HE := Lib.hid hE
    clear hE hg
    go_wp2_with fail
    go_ret2
    exact ⟨by rw [HE.out]; rfl, HB0.out⟩
  | true =>
    have hE : openR R s = if findR R.dir s < 0 then (0, 3) else (findR R.dir s, 0) := by rw [HO.out, if_neg (by rw [hg]; simp)]
    have HE := Lib.hid hE
    clear hE hg
    generalize findR R.dir s = q at HE HF
    go_wp2_with fail
    refine HF.out.mono ?_; rintro e w2 ⟨rfl, rfl⟩
    by_cases hq : q < 0
    · go_wp2_with fail
      go_ret2
      exact ⟨by rw [HE.out, if_pos hq]; rfl, HB0.out⟩
    · go_wp2_with fail
      go_ret2
      exact ⟨by rw [HE.out, if_neg (by omega)]; rfl, HB0.out⟩
/-- What 'turn' makes of it. -/
def turnS (R : RSt) (l : List RN) : RSt := { R with dir := turnR R.dir l, changes := R.changes ++ [l] }
theorem refTurnR {P : Nat → Prop} (v lv : Value) (R : RSt) (l : List RN) (w : World) (h : RFs P w v R) (hk : ROk R) (hl : RNames w lv l) (hll : l.length ≤ 2) (hlo : OwnIn P lv) :
    Calls Tryz.prog 112 #[v, lv] w fun e w' => ∃ v', e = .returned v' ∧ RFs (fun k => P k ∨ w.heap.size ≤ k) w' v' (turnS R l) ∧ Below w.heap.size w w' := by
  obtain ⟨fa, fc, da, dc, sa, sc, ca, cc, pa, pc, cvs, rfl, h1, h2, h3, h4, h5, h6, o1, o2, o3, o4, o5⟩ := h.parts
  refine (refTurn_any R.room R.steps R.left fa _ fc sa _ sc ca _ cc pa _ pc (.slice da R.dir.length dc) lv R.dir l w h2 hl (by have := hk.dir; omega) cvs h4 h5.one (by have := hk.changes; rw [h5.1]; omega)).mono ?_
  rintro e w' ⟨dv', cv', he, hd, hc, od, oc, hb⟩
  refine ⟨_, he, RFs.mk (R := turnS R l) (h1.below hb) hd (h3.below hb) hc ⟨by show _ = (R.changes ++ [l]).length; simp [h5.1], fun i c hi => ?_⟩ (h6.below hb) (o1.mono fun _ h => .inl h) (fun k hk => (od k hk).imp (o2 k) id) (o3.mono fun _ h => .inl h) (fun k hk => .inr (oc k hk)) (o5.mono fun _ h => .inl h), hb⟩
  have hi' : (R.changes ++ [l])[i]? = some c := hi
  by_cases hlt : i < R.changes.length
  · rw [List.getElem?_append_left hlt] at hi'
    obtain ⟨u, e1, e2, e3⟩ := h5.2 i c hi'
    exact ⟨u, by rw [List.getElem?_append_left (by rw [h5.1]; exact hlt)]; exact e1, e2.below hb, e3.mono fun _ h => .inl h⟩
  · rw [List.getElem?_append_right (by omega)] at hi'
    have h0 : i - R.changes.length = 0 := by
      by_cases h : i - R.changes.length = 0
      · exact h
      · rw [List.getElem?_eq_none (by simp; omega)] at hi'; cases hi'
    rw [h0] at hi'
    obtain rfl : l = c := by simpa using hi'
    exact ⟨lv, by rw [List.getElem?_append_right (by rw [h5.1]; omega), h5.1, h0]; rfl, hl.below hb, hlo.mono fun _ h => .inl h⟩
/-- What 'SyncDir' makes of it, and the error. -/
def syncDirR (R : RSt) : RSt × Int := if (stepR R).2.2 = 0 then ({ (stepR R).1 with sure := (stepR R).1.dir, changes := [] }, 0) else ((stepR R).1, (stepR R).2.2)
set_option maxRecDepth 100000 in
set_option maxHeartbeats 2000000 in
theorem refSyncDir_any {P : Nat → Prop} (v : Value) (R : RSt) (w : World) (h : RFs P w v R) (hk : ROk R) :
    Calls Tryz.prog 56 #[v] w fun e w' => ∃ v', e = .returned (.tuple #[v', .int .i64 (syncDirR R).2]) ∧ RFs P w' v' (syncDirR R).1 ∧ Below w.heap.size w w' := by
  have HO := Lib.hid (show syncDirR R = if (stepR R).2.2 = 0 then ({ (stepR R).1 with sure := (stepR R).1.dir, changes := [] }, 0) else ((stepR R).1, (stepR R).2.2) from rfl)
  have hP := h.lt
  have HS := Lib.hid (fun (w0 : World) (hb : Below w.heap.size w w0) => refStepR v R w0 (hP.below hb) hk)
  generalize syncDirR R = Z at HO
  generalize stepR R = T at HO HS
  obtain ⟨T1, T2, T3⟩ := T
  obtain ⟨fa, fc, da, dc, sa, sc, ca, cc, pa, pc, cvs, rfl, h1, h2, h3, h4, h5, h6, o1, o2, o3, o4, o5⟩ := h.parts
  clear h1 h2 h3 h4 h5 h6 h hk hP o1 o2 o3 o4 o5
  go_enter Tryz.func56, Tryz.ntmps56
  go_wp2_with fail
  refine calls_world fun w0 hw0 => ?_
  have hB0 : Below w.heap.size w w0 := by rw [hw0]; exact ((Below.refl _ _).alloc (Nat.le_refl _) _).alloc (by simp) _
  have hK0 : Blk w0 w.heap.size 33 [.int .i64 R.room, .slice fa R.files.length fc, .slice da R.dir.length dc, .slice sa R.sure.length sc, .slice ca R.changes.length cc, .int .i64 R.steps, .int .i64 R.left, .slice pa R.plan.length pc] := by rw [hw0]; exact (Blk.new w 33 [.int .i64 R.room, .slice fa R.files.length fc, .slice da R.dir.length dc, .slice sa R.sure.length sc, .slice ca R.changes.length cc, .int .i64 R.steps, .int .i64 R.left, .slice pa R.plan.length pc]).alloc _
  have hK1 : Blk w0 (w.heap.size + 1) 33 zeroC := by
    rw [hw0]
    have := Blk.new (w.alloc (.cells #[.int .i64 R.room, .slice fa R.files.length fc, .slice da R.dir.length dc, .slice sa R.sure.length sc, .slice ca R.changes.length cc, .int .i64 R.steps, .int .i64 R.left, .slice pa R.plan.length pc] 33)) 33 zeroC
    rw [World.size_alloc] at this
    exact this
  have HB0 := Lib.hid hB0
  have HK0 := Lib.hid hK0
  have HK1 := Lib.hid hK1
  clear hw0 hB0 hK0 hK1
  refine (HS.out w0 HB0.out).mono ?_; rintro e w1 ⟨v1, rfl, hR1, hb1⟩
  have hR1' := hR1.below hb1
  obtain ⟨fa1, fc1, da1, dc1, sa1, sc1, ca1, cc1, pa1, pc1, cvs1, rfl, -⟩ := hR1.parts
  obtain ⟨room1, files1, dir1, sure1, changes1, steps1, left1, plan1⟩ := T1
  simp only at HO hR1 hR1'
  have hk0 := (show Blk w1 w.heap.size 33 _ from (hb1.block _ HK0.out.lt).trans HK0.out)
  have hk1 := (show Blk w1 (w.heap.size + 1) 33 zeroC from (hb1.block _ HK1.out.lt).trans HK1.out)
  obtain ⟨x0, x1, x2, x3, x4, x5, x6, x7, y0, y1, y2, y3, y4, y5, y6, y7⟩ := hk0.fs
  have HB1 := Lib.hid (HB0.out.trans (hb1.mono HB0.out.size))
  have HKA := Lib.hid (putFS_blk hk0 (.int .i64 room1) (.slice fa1 files1.length fc1) (.slice da1 dir1.length dc1) (.slice sa1 sure1.length sc1) (.slice ca1 changes1.length cc1) (.int .i64 steps1) (.int .i64 left1) (.slice pa1 plan1.length pc1))
  have HKB := Lib.hid hk1
  have HR1 := Lib.hid hR1'
  clear hR1 hR1' hk0 hk1 hb1
  go_upto_region 2 with fail
  refine wp_world fun w2 hw2 => ?_
  have hk0 : Blk w2 w.heap.size 33 [.int .i64 room1, .slice fa1 files1.length fc1, .slice da1 dir1.length dc1, .slice sa1 sure1.length sc1, .slice ca1 changes1.length cc1, .int .i64 steps1, .int .i64 left1, .slice pa1 plan1.length pc1] := by rw [hw2]; exact HKA.out
  have hk1 : Blk w2 (w.heap.size + 1) 33 zeroC := by rw [hw2]; exact (putFS_other (w := w1) (show w.heap.size + 1 ≠ w.heap.size by omega) _ _ _ _ _ _ _ _).trans HKB.out
  have hB2 : Below w.heap.size w w2 := by rw [hw2]; exact putFS_below HB1.out (Nat.le_refl _) _ _ _ _ _ _ _ _
  have hR2 : RFs (fun k => P k ∧ k < w.heap.size) w2 (.agg #[.int .i64 room1, .slice fa1 files1.length fc1, .slice da1 dir1.length dc1, .slice sa1 sure1.length sc1, .slice ca1 changes1.length cc1, .int .i64 steps1, .int .i64 left1, .slice pa1 plan1.length pc1]) ⟨room1, files1, dir1, sure1, changes1, steps1, left1, plan1⟩ := by
    rw [hw2]; exact HR1.out.to fun k hk => putFS_other (w := w1) (Nat.ne_of_lt hk.2) _ _ _ _ _ _ _ _
  clear hw2 x0 x1 x2 x3 x4 x5 x6 x7 y0 y1 y2 y3 y4 y5 y6 y7 HKA HKB HR1 HB1 HK0 HK1 HB0
  obtain ⟨x0, x1, x2, x3, x4, x5, x6, x7, y0, y1, y2, y3, y4, y5, y6, y7⟩ := hk0.fs
  obtain ⟨p0, p1, p2, p3, p4, p5, p6, p7, q0, q1, q2, q3, q4, q5, q6, q7⟩ := (show Blk w2 (w.heap.size + 1) 33 [.int .i64 0, .slice none 0 0, .slice none 0 0, .slice none 0 0, .slice none 0 0, .int .i64 0, .int .i64 0, .slice none 0 0] from hk1).fs
  have HB2 := Lib.hid hB2
  have HR2 := Lib.hid hR2
  have HK0 := Lib.hid hk0
  have HK1 := Lib.hid hk1
  clear hk0 hk1 hB2 hR2
  by_cases h3 : T3 = 0
  · subst h3
    rw [if_pos rfl] at HO
    obtain ⟨fv, dv, sv, cv, pv, cvs', hv, g1, g2, g3, g4, g5, g6, o1, o2, o3, o4, o5⟩ := HR2.out
    injection hv with hv
    have hv : [Value.int .i64 room1, .slice fa1 files1.length fc1, .slice da1 dir1.length dc1, .slice sa1 sure1.length sc1, .slice ca1 changes1.length cc1, .int .i64 steps1, .int .i64 left1, .slice pa1 plan1.length pc1] = [.int .i64 room1, fv, dv, sv, cv, .int .i64 steps1, .int .i64 left1, pv] := congrArg Array.toList hv
    simp only [List.cons.injEq, and_true, true_and] at hv
    obtain ⟨rfl, rfl, rfl, rfl, rfl⟩ := hv
    have HN := Lib.hid (RFs.mk (P := fun k => P k ∧ k < w.heap.size) (w := w2) (R := ⟨room1, files1, dir1, dir1, [], steps1, left1, plan1⟩) g1 g2 g2 (.inl ⟨rfl, rfl⟩) ⟨rfl, fun i c h => by cases h⟩ g6 o1 o2 o2 (fun k hk => by cases hk) o5)
    clear g1 g2 g3 g4 g5 g6 o1 o2 o3 o4 o5 cvs'
    have HKA := Lib.hid ((HK0.out.set 3 (.slice da1 dir1.length dc1)).set 4 (.slice none 0 0))
    go_upto_region 6 with fail
    refine wp_world fun w3 hw3 => ?_
    have hk0 : Blk w3 w.heap.size 33 [.int .i64 room1, .slice fa1 files1.length fc1, .slice da1 dir1.length dc1, .slice da1 dir1.length dc1, .slice none 0 0, .int .i64 steps1, .int .i64 left1, .slice pa1 plan1.length pc1] := by rw [hw3]; exact HKA.out
    have hk1 : Blk w3 (w.heap.size + 1) 33 zeroC := by rw [hw3]; exact (HK1.out.set_other (a := ⟨w.heap.size, 3, none⟩) (show w.heap.size + 1 ≠ w.heap.size by omega) _).set_other (a := ⟨w.heap.size, 4, none⟩) (show w.heap.size + 1 ≠ w.heap.size by omega) _
    have hB3 : Below w.heap.size w w3 := by rw [hw3]; exact (HB2.out.setCell (p := ⟨w.heap.size, 3, none⟩) (Nat.le_refl _) _).setCell (p := ⟨w.heap.size, 4, none⟩) (Nat.le_refl _) _
    have hR3 := HN.out.to (w' := w3) fun k hk => by
      have h1 : k ≠ w.heap.size := Nat.ne_of_lt hk.2
      rw [hw3, heap_setCell_other _ _ k _ h1, heap_setCell_other _ _ k _ h1]
    clear hw3 x0 x1 x2 x3 x4 x5 x6 x7 y0 y1 y2 y3 y4 y5 y6 y7 p0 p1 p2 p3 p4 p5 p6 p7 q0 q1 q2 q3 q4 q5 q6 q7 HKA HN HB2 HR2 HK0 HK1
    obtain ⟨x0, x1, x2, x3, x4, x5, x6, x7, y0, y1, y2, y3, y4, y5, y6, y7⟩ := hk0.fs
    obtain ⟨p0, p1, p2, p3, p4, p5, p6, p7, q0, q1, q2, q3, q4, q5, q6, q7⟩ := (show Blk w3 (w.heap.size + 1) 33 [.int .i64 0, .slice none 0 0, .slice none 0 0, .slice none 0 0, .slice none 0 0, .int .i64 0, .int .i64 0, .slice none 0 0] from hk1).fs
    have HB3 := Lib.hid hB3
    have HR3 := Lib.hid hR3
    have HK1 := Lib.hid hk1
    clear hk0 hk1 hB3 hR3
    go_wp2_with fail
    have hkF := putFS_blk HK1.out (.int .i64 room1) (.slice fa1 files1.length fc1) (.slice da1 dir1.length dc1) (.slice da1 dir1.length dc1) (.slice none 0 0) (.int .i64 steps1) (.int .i64 left1) (.slice pa1 plan1.length pc1)
    obtain ⟨d0, d1, d2, d3, d4, d5, d6, d7, -⟩ := hkF.fs
    unfold putFS at d0 d1 d2 d3 d4 d5 d6 d7
    refine bodyPost_ret (v := .tuple #[.agg #[.int .i64 room1, .slice fa1 files1.length fc1, .slice da1 dir1.length dc1, .slice da1 dir1.length dc1, .slice none 0 0, .int .i64 steps1, .int .i64 left1, .slice pa1 plan1.length pc1], .int .i64 0]) (by simp [results, Tryz.results56, go_sem, d0, d1, d2, d3, d4, d5, d6, d7]) rfl ⟨_, by rw [HO.out], ?_, ?_⟩
    · rw [HO.out]; exact (HR3.out.to fun k hk => putFS_other (show k ≠ w.heap.size + 1 by have := hk.2; omega) _ _ _ _ _ _ _ _).mono fun _ hk => hk.1
    · exact putFS_below HB3.out (by omega) _ _ _ _ _ _ _ _
  · rw [if_neg h3] at HO
    go_wp2_with fail
    have hkF := putFS_blk HK1.out (.int .i64 room1) (.slice fa1 files1.length fc1) (.slice da1 dir1.length dc1) (.slice sa1 sure1.length sc1) (.slice ca1 changes1.length cc1) (.int .i64 steps1) (.int .i64 left1) (.slice pa1 plan1.length pc1)
    obtain ⟨d0, d1, d2, d3, d4, d5, d6, d7, -⟩ := hkF.fs
    unfold putFS at d0 d1 d2 d3 d4 d5 d6 d7
    refine bodyPost_ret (v := .tuple #[.agg #[.int .i64 room1, .slice fa1 files1.length fc1, .slice da1 dir1.length dc1, .slice sa1 sure1.length sc1, .slice ca1 changes1.length cc1, .int .i64 steps1, .int .i64 left1, .slice pa1 plan1.length pc1], .int .i64 T3]) (by simp [results, Tryz.results56, go_sem, d0, d1, d2, d3, d4, d5, d6, d7]) rfl ⟨_, by rw [HO.out], ?_, ?_⟩
    · rw [HO.out]; exact (HR2.out.to fun k hk => putFS_other (show k ≠ w.heap.size + 1 by have := hk.2; omega) _ _ _ _ _ _ _ _).mono fun _ hk => hk.1
    · exact putFS_below HB2.out (by omega) _ _ _ _ _ _ _ _
end Go.Proofs.YtigbgajelkknbaaGreatDoor
namespace Go.Proofs.YtigbgajelkknbaaGreatDoor
open Go.RowKit
set_option maxRecDepth 100000

/-- What 'Remove' makes of it, and the error. -/
def removeR (R : RSt) (s : ByteArray) : RSt × Int :=
  if (openR R s).2 = 0 then (if (stepR R).2.2 = 0 then (turnS (stepR R).1 [(s, -1)], 0) else ((stepR R).1, (stepR R).2.2)) else (R, (openR R s).2)
set_option maxRecDepth 100000 in
set_option maxHeartbeats 2000000 in
theorem refRemove_any {P : Nat → Prop} (v : Value) (R : RSt) (s : ByteArray) (w : World) (h : RFs P w v R) (hk : ROk R) (hks : R.steps < 4611686018427387903) (hsz : s.size ≤ 9223372036854775807) :
    Calls Tryz.prog 59 #[v, .string s] w fun e w' => ∃ v', e = .returned (.tuple #[v', .int .i64 (removeR R s).2]) ∧ RFs (fun k => P k ∨ w.heap.size ≤ k) w' v' (removeR R s).1 ∧ Below w.heap.size w w' := by
  have HO := Lib.hid (show removeR R s = if (openR R s).2 = 0 then (if (stepR R).2.2 = 0 then (turnS (stepR R).1 [(s, -1)], 0) else ((stepR R).1, (stepR R).2.2)) else (R, (openR R s).2) from rfl)
  have hP := h.lt
  have HS := Lib.hid (fun (w0 : World) (hb : Below w.heap.size w w0) => refStepR v R w0 (hP.below hb) hk)
  have HF := Lib.hid (fun (w0 : World) (hb : Below w.heap.size w w0) => refOpen_any v R s w0 (hP.below hb) hk hsz)
  have HP := Lib.hid hP
  have HKT := Lib.hid (hk.step hks)
  generalize removeR R s = Z at HO
  generalize openR R s = q at HO HF
  generalize stepR R = T at HO HS HKT
  obtain ⟨q1, q2⟩ := q
  obtain ⟨T1, T2, T3⟩ := T
  obtain ⟨fa, fc, da, dc, sa, sc, ca, cc, pa, pc, cvs, rfl, -⟩ := h.parts
  clear h hk hP
  simp only at HO HKT
  go_enter Tryz.func59, Tryz.ntmps59
  go_wp2_with fail
  refine calls_world fun w0 hw0 => ?_
  have hB0 : Below w.heap.size w w0 := by rw [hw0]; exact ((Below.refl _ _).alloc (Nat.le_refl _) _).alloc (by simp) _
  have hK0 : Blk w0 w.heap.size 33 [.int .i64 R.room, .slice fa R.files.length fc, .slice da R.dir.length dc, .slice sa R.sure.length sc, .slice ca R.changes.length cc, .int .i64 R.steps, .int .i64 R.left, .slice pa R.plan.length pc] := by rw [hw0]; exact (Blk.new w 33 [.int .i64 R.room, .slice fa R.files.length fc, .slice da R.dir.length dc, .slice sa R.sure.length sc, .slice ca R.changes.length cc, .int .i64 R.steps, .int .i64 R.left, .slice pa R.plan.length pc]).alloc _
  have hK1 : Blk w0 (w.heap.size + 1) 33 zeroC := by
    rw [hw0]
    have := Blk.new (w.alloc (.cells #[.int .i64 R.room, .slice fa R.files.length fc, .slice da R.dir.length dc, .slice sa R.sure.length sc, .slice ca R.changes.length cc, .int .i64 R.steps, .int .i64 R.left, .slice pa R.plan.length pc] 33)) 33 zeroC
    rw [World.size_alloc] at this
    exact this
  have HB0 := Lib.hid hB0
  have HK0 := Lib.hid hK0
  have HK1 := Lib.hid hK1
  clear hw0 hB0 hK0 hK1
  refine (HF.out w0 HB0.out).mono ?_; rintro e w1 ⟨rfl, hb1⟩
  have hk0 := (show Blk w1 w.heap.size 33 [.int .i64 R.room, .slice fa R.files.length fc, .slice da R.dir.length dc, .slice sa R.sure.length sc, .slice ca R.changes.length cc, .int .i64 R.steps, .int .i64 R.left, .slice pa R.plan.length pc] from (hb1.block _ HK0.out.lt).trans HK0.out)
  have hk1 := (show Blk w1 (w.heap.size + 1) 33 zeroC from (hb1.block _ HK1.out.lt).trans HK1.out)
  have hB := HB0.out.trans (hb1.mono HB0.out.size)
  clear HK0 HK1 HB0
  have HK0 := Lib.hid hk0
  have HK1 := Lib.hid hk1
  have HB0 := Lib.hid hB
  clear hk0 hk1 hB
  clear hb1
  by_cases h2 : q2 = 0
  · subst h2
    rw [if_pos rfl] at HO
    obtain ⟨x0, x1, x2, x3, x4, x5, x6, x7, y0, y1, y2, y3, y4, y5, y6, y7⟩ := HK0.out.fs
    obtain ⟨p0, p1, p2, p3, p4, p5, p6, p7, z0, z1, z2, z3, z4, z5, z6, z7⟩ := (show Blk _ (w.heap.size + 1) 33 [.int .i64 0, .slice none 0 0, .slice none 0 0, .slice none 0 0, .slice none 0 0, .int .i64 0, .int .i64 0, .slice none 0 0] from HK1.out).fs
    go_wp2_with fail
    clear x0 x1 x2 x3 x4 x5 x6 x7 y0 y1 y2 y3 y4 y5 y6 y7 p0 p1 p2 p3 p4 p5 p6 p7 z0 z1 z2 z3 z4 z5 z6 z7
    refine (HS.out w1 HB0.out).mono ?_; rintro e w2 ⟨v1, rfl, hR1, hb1⟩
    have hR1' := hR1.below hb1
    obtain ⟨fa1, fc1, da1, dc1, sa1, sc1, ca1, cc1, pa1, pc1, cvs1, rfl, -⟩ := hR1.parts
    obtain ⟨room1, files1, dir1, sure1, changes1, steps1, left1, plan1⟩ := T1
    simp only at HO hR1 hR1'
    have hk0 := (show Blk w2 w.heap.size 33 [.int .i64 R.room, .slice fa R.files.length fc, .slice da R.dir.length dc, .slice sa R.sure.length sc, .slice ca R.changes.length cc, .int .i64 R.steps, .int .i64 R.left, .slice pa R.plan.length pc] from (hb1.block _ HK0.out.lt).trans HK0.out)
    have hk1 := (show Blk w2 (w.heap.size + 1) 33 zeroC from (hb1.block _ HK1.out.lt).trans HK1.out)
    have hB := HB0.out.trans (hb1.mono HB0.out.size)
    clear HK0 HK1 HB0
    have HK0 := Lib.hid hk0
    have HK1 := Lib.hid hk1
    have HB0 := Lib.hid hB
    clear hk0 hk1 hB
    obtain ⟨x0, x1, x2, x3, x4, x5, x6, x7, y0, y1, y2, y3, y4, y5, y6, y7⟩ := HK0.out.fs
    obtain ⟨p0, p1, p2, p3, p4, p5, p6, p7, z0, z1, z2, z3, z4, z5, z6, z7⟩ := (show Blk _ (w.heap.size + 1) 33 [.int .i64 0, .slice none 0 0, .slice none 0 0, .slice none 0 0, .slice none 0 0, .int .i64 0, .int .i64 0, .slice none 0 0] from HK1.out).fs
    have HKA := Lib.hid (putFS_blk HK0.out (.int .i64 room1) (.slice fa1 files1.length fc1) (.slice da1 dir1.length dc1) (.slice sa1 sure1.length sc1) (.slice ca1 changes1.length cc1) (.int .i64 steps1) (.int .i64 left1) (.slice pa1 plan1.length pc1))
    have HR1 := Lib.hid hR1'
    clear hR1 hR1' hb1
    go_upto_region 5 with fail
    refine wp_world fun w3 hw2 => ?_
    have hk0 : Blk w3 w.heap.size 33 [.int .i64 room1, .slice fa1 files1.length fc1, .slice da1 dir1.length dc1, .slice sa1 sure1.length sc1, .slice ca1 changes1.length cc1, .int .i64 steps1, .int .i64 left1, .slice pa1 plan1.length pc1] := by rw [hw2]; exact HKA.out
    have hk1 : Blk w3 (w.heap.size + 1) 33 zeroC := by rw [hw2]; exact (putFS_other (w := w2) (show w.heap.size + 1 ≠ w.heap.size by omega) _ _ _ _ _ _ _ _).trans HK1.out
    have hB2 : Below w.heap.size w w3 := by rw [hw2]; exact putFS_below HB0.out (Nat.le_refl _) _ _ _ _ _ _ _ _
    have hR2 : RFs (fun k => P k ∧ k < w.heap.size) w3 (.agg #[.int .i64 room1, .slice fa1 files1.length fc1, .slice da1 dir1.length dc1, .slice sa1 sure1.length sc1, .slice ca1 changes1.length cc1, .int .i64 steps1, .int .i64 left1, .slice pa1 plan1.length pc1]) ⟨room1, files1, dir1, sure1, changes1, steps1, left1, plan1⟩ := by
      rw [hw2]; exact HR1.out.to fun k hk => putFS_other (w := w2) (Nat.ne_of_lt hk.2) _ _ _ _ _ _ _ _
    clear hw2 HKA HR1 HB0 HK0 HK1
    clear x0 x1 x2 x3 x4 x5 x6 x7 y0 y1 y2 y3 y4 y5 y6 y7 p0 p1 p2 p3 p4 p5 p6 p7 z0 z1 z2 z3 z4 z5 z6 z7
    have HB0 := Lib.hid hB2
    have HR2 := Lib.hid hR2
    have HK0 := Lib.hid hk0
    have HK1 := Lib.hid hk1
    clear hk0 hk1 hB2 hR2
    by_cases h3 : T3 = 0
    · subst h3
      rw [if_pos rfl] at HO
      have hw2 : w.heap.size + 2 ≤ w3.heap.size := by have := HK1.out.lt; omega
      have hlB : Below w3.heap.size w3 (w3.alloc (.cells #[.string s, .int .i64 (-1)] 133)) := (Below.refl _ _).alloc (Nat.le_refl _) _
      have hlN : RNames (w3.alloc (.cells #[.string s, .int .i64 (-1)] 133)) (.slice (some ⟨w3.heap.size, 0, none⟩) 1 1) [(s, (-1))] :=
        .inr ⟨w3.heap.size, 0, 1, rfl, by simp, fun j n hj => by
          match j with
          | 0 => cases hj; exact ⟨(Blk.new w3 133 [.string s, .int .i64 (-1)]).cell rfl, (Blk.new w3 133 [.string s, .int .i64 (-1)]).cell rfl⟩
          | j + 1 => cases hj⟩
      have hTR := refTurnR (P := fun k => (P k ∧ k < w.heap.size) ∨ w.heap.size + 2 ≤ k) _ _ ⟨room1, files1, dir1, sure1, changes1, steps1, left1, plan1⟩ [(s, (-1))] (w3.alloc (.cells #[.string s, .int .i64 (-1)] 133)) ((HR2.out.below hlB).mono fun _ hk => .inl hk) HKT.out hlN (by simp) (fun k hk => by cases hk; exact .inr hw2)
      have HTR := Lib.hid hTR
      have HLB := Lib.hid hlB
      have HW2 := Lib.hid hw2
      clear hTR hlB hlN hw2
      obtain ⟨x0, x1, x2, x3, x4, x5, x6, x7, y0, y1, y2, y3, y4, y5, y6, y7⟩ := HK0.out.fs
      obtain ⟨p0, p1, p2, p3, p4, p5, p6, p7, z0, z1, z2, z3, z4, z5, z6, z7⟩ := (show Blk _ (w.heap.size + 1) 33 [.int .i64 0, .slice none 0 0, .slice none 0 0, .slice none 0 0, .slice none 0 0, .int .i64 0, .int .i64 0, .slice none 0 0] from HK1.out).fs
      go_wp2_with fail
      clear x0 x1 x2 x3 x4 x5 x6 x7 y0 y1 y2 y3 y4 y5 y6 y7 p0 p1 p2 p3 p4 p5 p6 p7 z0 z1 z2 z3 z4 z5 z6 z7
      refine HTR.out.mono ?_; rintro e w5 ⟨v5, rfl, hR5, hb5⟩
      have hb5' := HLB.out.trans (hb5.mono HLB.out.size)
      have hk0 := (show Blk w5 w.heap.size 33 [.int .i64 room1, .slice fa1 files1.length fc1, .slice da1 dir1.length dc1, .slice sa1 sure1.length sc1, .slice ca1 changes1.length cc1, .int .i64 steps1, .int .i64 left1, .slice pa1 plan1.length pc1] from (hb5'.block _ HK0.out.lt).trans HK0.out)
      have hk1 := (show Blk w5 (w.heap.size + 1) 33 zeroC from (hb5'.block _ HK1.out.lt).trans HK1.out)
      have hB := HB0.out.trans (hb5'.mono HB0.out.size)
      clear HK0 HK1 HB0
      have HK0 := Lib.hid hk0
      have HK1 := Lib.hid hk1
      have HB0 := Lib.hid hB
      clear hk0 hk1 hB
      obtain ⟨fa5, fc5, da5, dc5, sa5, sc5, ca5, cc5, pa5, pc5, cvs5, rfl, -⟩ := hR5.parts
      have HR5 := Lib.hid (hR5.mono (Q := fun k => (P k ∧ k < w.heap.size) ∨ w.heap.size + 2 ≤ k) fun k hk => hk.elim id (fun h => .inr (by have := HW2.out; have := HLB.out.size; omega)))
      generalize turnS ⟨room1, files1, dir1, sure1, changes1, steps1, left1, plan1⟩ [(s, (-1))] = T5 at *
      obtain ⟨room5, files5, dir5, sure5, changes5, steps5, left5, plan5⟩ := T5
      simp only at HR5 HO
      clear hR5 hb5 hb5' HTR
      obtain ⟨x0, x1, x2, x3, x4, x5, x6, x7, y0, y1, y2, y3, y4, y5, y6, y7⟩ := HK0.out.fs
      obtain ⟨p0, p1, p2, p3, p4, p5, p6, p7, z0, z1, z2, z3, z4, z5, z6, z7⟩ := (show Blk _ (w.heap.size + 1) 33 [.int .i64 0, .slice none 0 0, .slice none 0 0, .slice none 0 0, .slice none 0 0, .int .i64 0, .int .i64 0, .slice none 0 0] from HK1.out).fs
      go_wp2_with fail
      have hkF := putFS_blk HK1.out (.int .i64 room5) (.slice fa5 files5.length fc5) (.slice da5 dir5.length dc5) (.slice sa5 sure5.length sc5) (.slice ca5 changes5.length cc5) (.int .i64 steps5) (.int .i64 left5) (.slice pa5 plan5.length pc5)
      obtain ⟨d0, d1, d2, d3, d4, d5, d6, d7, -⟩ := hkF.fs
      unfold putFS at d0 d1 d2 d3 d4 d5 d6 d7
      refine bodyPost_ret (v := .tuple #[.agg #[.int .i64 room5, .slice fa5 files5.length fc5, .slice da5 dir5.length dc5, .slice sa5 sure5.length sc5, .slice ca5 changes5.length cc5, .int .i64 steps5, .int .i64 left5, .slice pa5 plan5.length pc5], .int .i64 0]) (by simp [results, Tryz.results59, go_sem, d0, d1, d2, d3, d4, d5, d6, d7]) rfl ⟨_, by rw [HO.out], ?_, ?_⟩
      · rw [HO.out]; exact (HR5.out.to fun k hk => putFS_other (show k ≠ w.heap.size + 1 by rcases hk with hk | hk <;> omega) _ _ _ _ _ _ _ _).mono fun _ hk => hk.imp (fun h => h.1) (fun h => by omega)
      · exact putFS_below HB0.out (by omega) _ _ _ _ _ _ _ _
    · rw [if_neg h3] at HO
      obtain ⟨x0, x1, x2, x3, x4, x5, x6, x7, y0, y1, y2, y3, y4, y5, y6, y7⟩ := HK0.out.fs
      obtain ⟨p0, p1, p2, p3, p4, p5, p6, p7, z0, z1, z2, z3, z4, z5, z6, z7⟩ := (show Blk _ (w.heap.size + 1) 33 [.int .i64 0, .slice none 0 0, .slice none 0 0, .slice none 0 0, .slice none 0 0, .int .i64 0, .int .i64 0, .slice none 0 0] from HK1.out).fs
      go_wp2_with fail
      have hkF := putFS_blk HK1.out (.int .i64 room1) (.slice fa1 files1.length fc1) (.slice da1 dir1.length dc1) (.slice sa1 sure1.length sc1) (.slice ca1 changes1.length cc1) (.int .i64 steps1) (.int .i64 left1) (.slice pa1 plan1.length pc1)
      obtain ⟨d0, d1, d2, d3, d4, d5, d6, d7, -⟩ := hkF.fs
      unfold putFS at d0 d1 d2 d3 d4 d5 d6 d7
      refine bodyPost_ret (v := .tuple #[.agg #[.int .i64 room1, .slice fa1 files1.length fc1, .slice da1 dir1.length dc1, .slice sa1 sure1.length sc1, .slice ca1 changes1.length cc1, .int .i64 steps1, .int .i64 left1, .slice pa1 plan1.length pc1], .int .i64 T3]) (by simp [results, Tryz.results59, go_sem, d0, d1, d2, d3, d4, d5, d6, d7]) rfl ⟨_, by rw [HO.out], ?_, ?_⟩
      · rw [HO.out]; exact (HR2.out.to fun k hk => putFS_other (show k ≠ w.heap.size + 1 by have := hk.2; omega) _ _ _ _ _ _ _ _).mono fun _ hk => .inl hk.1
      · exact putFS_below HB0.out (by omega) _ _ _ _ _ _ _ _
  · rw [if_neg h2] at HO
    obtain ⟨x0, x1, x2, x3, x4, x5, x6, x7, y0, y1, y2, y3, y4, y5, y6, y7⟩ := HK0.out.fs
    obtain ⟨p0, p1, p2, p3, p4, p5, p6, p7, z0, z1, z2, z3, z4, z5, z6, z7⟩ := (show Blk _ (w.heap.size + 1) 33 [.int .i64 0, .slice none 0 0, .slice none 0 0, .slice none 0 0, .slice none 0 0, .int .i64 0, .int .i64 0, .slice none 0 0] from HK1.out).fs
    go_wp2_with fail
    have hkF := putFS_blk HK1.out (.int .i64 R.room) (.slice fa R.files.length fc) (.slice da R.dir.length dc) (.slice sa R.sure.length sc) (.slice ca R.changes.length cc) (.int .i64 R.steps) (.int .i64 R.left) (.slice pa R.plan.length pc)
    obtain ⟨d0, d1, d2, d3, d4, d5, d6, d7, -⟩ := hkF.fs
    unfold putFS at d0 d1 d2 d3 d4 d5 d6 d7
    refine bodyPost_ret (v := .tuple #[.agg #[.int .i64 R.room, .slice fa R.files.length fc, .slice da R.dir.length dc, .slice sa R.sure.length sc, .slice ca R.changes.length cc, .int .i64 R.steps, .int .i64 R.left, .slice pa R.plan.length pc], .int .i64 q2]) (by simp [results, Tryz.results59, go_sem, d0, d1, d2, d3, d4, d5, d6, d7]) rfl ⟨_, by rw [HO.out], ?_, ?_⟩
    · rw [HO.out]; exact ((HP.out.below HB0.out).to fun k hk => putFS_other (show k ≠ w.heap.size + 1 by have := hk.2; omega) _ _ _ _ _ _ _ _).mono fun _ hk => .inl hk.1
    · exact putFS_below HB0.out (by omega) _ _ _ _ _ _ _ _
end Go.Proofs.YtigbgajelkknbaaGreatDoor
namespace Go.Proofs.YtigbgajelkknbaaGreatDoor
open Go.RowKit
set_option maxRecDepth 100000

/-- What 'Rename' makes of it, and the error. -/
def renameR (R : RSt) (a b : ByteArray) : RSt × Int :=
  if nameB a = true ∧ nameB b = true then (if findR R.dir a < 0 then (R, 3) else if (stepR R).2.2 = 0 then (turnS (stepR R).1 [(a, -1), (b, findR R.dir a)], 0) else ((stepR R).1, (stepR R).2.2)) else (R, 7)
set_option maxRecDepth 100000 in
set_option maxHeartbeats 2000000 in
theorem refRename_any {P : Nat → Prop} (v : Value) (R : RSt) (a b : ByteArray) (w : World) (h : RFs P w v R) (hk : ROk R) (hks : R.steps < 4611686018427387903) (hsa : a.size ≤ 9223372036854775807) (hsb : b.size ≤ 9223372036854775807) :
    Calls Tryz.prog 58 #[v, .string a, .string b] w fun e w' => ∃ v', e = .returned (.tuple #[v', .int .i64 (renameR R a b).2]) ∧ RFs (fun k => P k ∨ w.heap.size ≤ k) w' v' (renameR R a b).1 ∧ Below w.heap.size w w' := by
  have HO := Lib.hid (show renameR R a b = if nameB a = true ∧ nameB b = true then (if findR R.dir a < 0 then (R, 3) else if (stepR R).2.2 = 0 then (turnS (stepR R).1 [(a, -1), (b, findR R.dir a)], 0) else ((stepR R).1, (stepR R).2.2)) else (R, 7) from rfl)
  have hP := h.lt
  have HS := Lib.hid (fun (w0 : World) (hb : Below w.heap.size w w0) => refStepR v R w0 (hP.below hb) hk)
  have HP := Lib.hid hP
  have HKT := Lib.hid (hk.step hks)
  have HGA := Lib.hid (fun (w0 : World) => good_any a w0 (by omega))
  have HGB := Lib.hid (fun (w0 : World) => good_any b w0 (by omega))
  obtain ⟨fa, fc, da, dc, sa, sc, ca, cc, pa, pc, cvs, rfl, -, hD, -⟩ := h.parts
  have HF := Lib.hid (fun (w0 : World) (hb : Below w.heap.size w w0) => refFind_any _ R.dir a w0 (hD.below hb) (by have := hk.dir; omega))
  generalize renameR R a b = Z at HO
  generalize findR R.dir a = q at HO HF
  generalize stepR R = T at HO HS HKT
  generalize nameB a = ga at HO HGA
  generalize nameB b = gb at HO HGB
  obtain ⟨T1, T2, T3⟩ := T
  clear h hk hP hD
  simp only at HO HKT
  go_enter Tryz.func58, Tryz.ntmps58
  go_wp2_with fail
  refine calls_world fun w0 hw0 => ?_
  have hB0 : Below w.heap.size w w0 := by rw [hw0]; exact ((Below.refl _ _).alloc (Nat.le_refl _) _).alloc (by simp) _
  have hK0 : Blk w0 w.heap.size 33 [.int .i64 R.room, .slice fa R.files.length fc, .slice da R.dir.length dc, .slice sa R.sure.length sc, .slice ca R.changes.length cc, .int .i64 R.steps, .int .i64 R.left, .slice pa R.plan.length pc] := by rw [hw0]; exact (Blk.new w 33 [.int .i64 R.room, .slice fa R.files.length fc, .slice da R.dir.length dc, .slice sa R.sure.length sc, .slice ca R.changes.length cc, .int .i64 R.steps, .int .i64 R.left, .slice pa R.plan.length pc]).alloc _
  have hK1 : Blk w0 (w.heap.size + 1) 33 zeroC := by
    rw [hw0]
    have := Blk.new (w.alloc (.cells #[.int .i64 R.room, .slice fa R.files.length fc, .slice da R.dir.length dc, .slice sa R.sure.length sc, .slice ca R.changes.length cc, .int .i64 R.steps, .int .i64 R.left, .slice pa R.plan.length pc] 33)) 33 zeroC
    rw [World.size_alloc] at this
    exact this
  have HB0 := Lib.hid hB0
  have HK0 := Lib.hid hK0
  have HK1 := Lib.hid hK1
  clear hw0 hB0 hK0 hK1
  refine (HGA.out w0).mono ?_; rintro e w1 ⟨rfl, rfl⟩
  cases ga with
  | false =>
    rw [if_neg (by simp)] at HO
    obtain ⟨x0, x1, x2, x3, x4, x5, x6, x7, y0, y1, y2, y3, y4, y5, y6, y7⟩ := HK0.out.fs
    obtain ⟨p0, p1, p2, p3, p4, p5, p6, p7, z0, z1, z2, z3, z4, z5, z6, z7⟩ := (show Blk _ (w.heap.size + 1) 33 [.int .i64 0, .slice none 0 0, .slice none 0 0, .slice none 0 0, .slice none 0 0, .int .i64 0, .int .i64 0, .slice none 0 0] from HK1.out).fs
    go_wp2_with fail
    have hkF := putFS_blk HK1.out (.int .i64 R.room) (.slice fa R.files.length fc) (.slice da R.dir.length dc) (.slice sa R.sure.length sc) (.slice ca R.changes.length cc) (.int .i64 R.steps) (.int .i64 R.left) (.slice pa R.plan.length pc)
    obtain ⟨d0, d1, d2, d3, d4, d5, d6, d7, -⟩ := hkF.fs
    unfold putFS at d0 d1 d2 d3 d4 d5 d6 d7
    refine bodyPost_ret (v := .tuple #[.agg #[.int .i64 R.room, .slice fa R.files.length fc, .slice da R.dir.length dc, .slice sa R.sure.length sc, .slice ca R.changes.length cc, .int .i64 R.steps, .int .i64 R.left, .slice pa R.plan.length pc], .int .i64 7]) (by simp [results, Tryz.results58, go_sem, d0, d1, d2, d3, d4, d5, d6, d7]) rfl ⟨_, by rw [HO.out], ?_, ?_⟩
    · rw [HO.out]; exact ((HP.out.below HB0.out).to fun k hk => putFS_other (show k ≠ w.heap.size + 1 by have := hk.2; omega) _ _ _ _ _ _ _ _).mono fun _ hk => .inl hk.1
    · exact putFS_below HB0.out (by omega) _ _ _ _ _ _ _ _
  | true =>
    go_wp2_with fail
    refine (HGB.out w0).mono ?_; rintro e w1 ⟨rfl, rfl⟩
    cases gb with
    | false =>
      rw [if_neg (by simp)] at HO
      obtain ⟨x0, x1, x2, x3, x4, x5, x6, x7, y0, y1, y2, y3, y4, y5, y6, y7⟩ := HK0.out.fs
      obtain ⟨p0, p1, p2, p3, p4, p5, p6, p7, z0, z1, z2, z3, z4, z5, z6, z7⟩ := (show Blk _ (w.heap.size + 1) 33 [.int .i64 0, .slice none 0 0, .slice none 0 0, .slice none 0 0, .slice none 0 0, .int .i64 0, .int .i64 0, .slice none 0 0] from HK1.out).fs
      go_wp2_with fail
      have hkF := putFS_blk HK1.out (.int .i64 R.room) (.slice fa R.files.length fc) (.slice da R.dir.length dc) (.slice sa R.sure.length sc) (.slice ca R.changes.length cc) (.int .i64 R.steps) (.int .i64 R.left) (.slice pa R.plan.length pc)
      obtain ⟨d0, d1, d2, d3, d4, d5, d6, d7, -⟩ := hkF.fs
      unfold putFS at d0 d1 d2 d3 d4 d5 d6 d7
      refine bodyPost_ret (v := .tuple #[.agg #[.int .i64 R.room, .slice fa R.files.length fc, .slice da R.dir.length dc, .slice sa R.sure.length sc, .slice ca R.changes.length cc, .int .i64 R.steps, .int .i64 R.left, .slice pa R.plan.length pc], .int .i64 7]) (by simp [results, Tryz.results58, go_sem, d0, d1, d2, d3, d4, d5, d6, d7]) rfl ⟨_, by rw [HO.out], ?_, ?_⟩
      · rw [HO.out]; exact ((HP.out.below HB0.out).to fun k hk => putFS_other (show k ≠ w.heap.size + 1 by have := hk.2; omega) _ _ _ _ _ _ _ _).mono fun _ hk => .inl hk.1
      · exact putFS_below HB0.out (by omega) _ _ _ _ _ _ _ _
    | true =>
      rw [if_pos (by simp)] at HO
      obtain ⟨x0, x1, x2, x3, x4, x5, x6, x7, y0, y1, y2, y3, y4, y5, y6, y7⟩ := HK0.out.fs
      obtain ⟨p0, p1, p2, p3, p4, p5, p6, p7, z0, z1, z2, z3, z4, z5, z6, z7⟩ := (show Blk _ (w.heap.size + 1) 33 [.int .i64 0, .slice none 0 0, .slice none 0 0, .slice none 0 0, .slice none 0 0, .int .i64 0, .int .i64 0, .slice none 0 0] from HK1.out).fs
      go_wp2_with fail
      clear x0 x1 x2 x3 x4 x5 x6 x7 y0 y1 y2 y3 y4 y5 y6 y7 p0 p1 p2 p3 p4 p5 p6 p7 z0 z1 z2 z3 z4 z5 z6 z7
      refine (HF.out w0 HB0.out).mono ?_; rintro e w1 ⟨rfl, rfl⟩
      by_cases hq : q < 0
      · rw [if_pos hq] at HO
        obtain ⟨x0, x1, x2, x3, x4, x5, x6, x7, y0, y1, y2, y3, y4, y5, y6, y7⟩ := HK0.out.fs
        obtain ⟨p0, p1, p2, p3, p4, p5, p6, p7, z0, z1, z2, z3, z4, z5, z6, z7⟩ := (show Blk _ (w.heap.size + 1) 33 [.int .i64 0, .slice none 0 0, .slice none 0 0, .slice none 0 0, .slice none 0 0, .int .i64 0, .int .i64 0, .slice none 0 0] from HK1.out).fs
        go_wp2_with fail
        have hkF := putFS_blk HK1.out (.int .i64 R.room) (.slice fa R.files.length fc) (.slice da R.dir.length dc) (.slice sa R.sure.length sc) (.slice ca R.changes.length cc) (.int .i64 R.steps) (.int .i64 R.left) (.slice pa R.plan.length pc)
        obtain ⟨d0, d1, d2, d3, d4, d5, d6, d7, -⟩ := hkF.fs
        unfold putFS at d0 d1 d2 d3 d4 d5 d6 d7
        refine bodyPost_ret (v := .tuple #[.agg #[.int .i64 R.room, .slice fa R.files.length fc, .slice da R.dir.length dc, .slice sa R.sure.length sc, .slice ca R.changes.length cc, .int .i64 R.steps, .int .i64 R.left, .slice pa R.plan.length pc], .int .i64 3]) (by simp [results, Tryz.results58, go_sem, d0, d1, d2, d3, d4, d5, d6, d7]) rfl ⟨_, by rw [HO.out], ?_, ?_⟩
        · rw [HO.out]; exact ((HP.out.below HB0.out).to fun k hk => putFS_other (show k ≠ w.heap.size + 1 by have := hk.2; omega) _ _ _ _ _ _ _ _).mono fun _ hk => .inl hk.1
        · exact putFS_below HB0.out (by omega) _ _ _ _ _ _ _ _
      · rw [if_neg hq] at HO
        obtain ⟨x0, x1, x2, x3, x4, x5, x6, x7, y0, y1, y2, y3, y4, y5, y6, y7⟩ := HK0.out.fs
        obtain ⟨p0, p1, p2, p3, p4, p5, p6, p7, z0, z1, z2, z3, z4, z5, z6, z7⟩ := (show Blk _ (w.heap.size + 1) 33 [.int .i64 0, .slice none 0 0, .slice none 0 0, .slice none 0 0, .slice none 0 0, .int .i64 0, .int .i64 0, .slice none 0 0] from HK1.out).fs
        go_wp2_with fail
        clear x0 x1 x2 x3 x4 x5 x6 x7 y0 y1 y2 y3 y4 y5 y6 y7 p0 p1 p2 p3 p4 p5 p6 p7 z0 z1 z2 z3 z4 z5 z6 z7
        refine (HS.out w0 HB0.out).mono ?_; rintro e w2 ⟨v1, rfl, hR1, hb1⟩
        have hR1' := hR1.below hb1
        obtain ⟨fa1, fc1, da1, dc1, sa1, sc1, ca1, cc1, pa1, pc1, cvs1, rfl, -⟩ := hR1.parts
        obtain ⟨room1, files1, dir1, sure1, changes1, steps1, left1, plan1⟩ := T1
        simp only at HO hR1 hR1'
        have hk0 := (show Blk w2 w.heap.size 33 [.int .i64 R.room, .slice fa R.files.length fc, .slice da R.dir.length dc, .slice sa R.sure.length sc, .slice ca R.changes.length cc, .int .i64 R.steps, .int .i64 R.left, .slice pa R.plan.length pc] from (hb1.block _ HK0.out.lt).trans HK0.out)
        have hk1 := (show Blk w2 (w.heap.size + 1) 33 zeroC from (hb1.block _ HK1.out.lt).trans HK1.out)
        have hB := HB0.out.trans (hb1.mono HB0.out.size)
        clear HK0 HK1 HB0
        have HK0 := Lib.hid hk0
        have HK1 := Lib.hid hk1
        have HB0 := Lib.hid hB
        clear hk0 hk1 hB
        obtain ⟨x0, x1, x2, x3, x4, x5, x6, x7, y0, y1, y2, y3, y4, y5, y6, y7⟩ := HK0.out.fs
        obtain ⟨p0, p1, p2, p3, p4, p5, p6, p7, z0, z1, z2, z3, z4, z5, z6, z7⟩ := (show Blk _ (w.heap.size + 1) 33 [.int .i64 0, .slice none 0 0, .slice none 0 0, .slice none 0 0, .slice none 0 0, .int .i64 0, .int .i64 0, .slice none 0 0] from HK1.out).fs
        have HKA := Lib.hid (putFS_blk HK0.out (.int .i64 room1) (.slice fa1 files1.length fc1) (.slice da1 dir1.length dc1) (.slice sa1 sure1.length sc1) (.slice ca1 changes1.length cc1) (.int .i64 steps1) (.int .i64 left1) (.slice pa1 plan1.length pc1))
        have HR1 := Lib.hid hR1'
        clear hR1 hR1' hb1
        go_upto_region 7 with fail
        refine wp_world fun w3 hw2 => ?_
        have hk0 : Blk w3 w.heap.size 33 [.int .i64 room1, .slice fa1 files1.length fc1, .slice da1 dir1.length dc1, .slice sa1 sure1.length sc1, .slice ca1 changes1.length cc1, .int .i64 steps1, .int .i64 left1, .slice pa1 plan1.length pc1] := by rw [hw2]; exact HKA.out
        have hk1 : Blk w3 (w.heap.size + 1) 33 zeroC := by rw [hw2]; exact (putFS_other (w := w2) (show w.heap.size + 1 ≠ w.heap.size by omega) _ _ _ _ _ _ _ _).trans HK1.out
        have hB2 : Below w.heap.size w w3 := by rw [hw2]; exact putFS_below HB0.out (Nat.le_refl _) _ _ _ _ _ _ _ _
        have hR2 : RFs (fun k => P k ∧ k < w.heap.size) w3 (.agg #[.int .i64 room1, .slice fa1 files1.length fc1, .slice da1 dir1.length dc1, .slice sa1 sure1.length sc1, .slice ca1 changes1.length cc1, .int .i64 steps1, .int .i64 left1, .slice pa1 plan1.length pc1]) ⟨room1, files1, dir1, sure1, changes1, steps1, left1, plan1⟩ := by
          rw [hw2]; exact HR1.out.to fun k hk => putFS_other (w := w2) (Nat.ne_of_lt hk.2) _ _ _ _ _ _ _ _
        clear hw2 HKA HR1 HB0 HK0 HK1
        clear x0 x1 x2 x3 x4 x5 x6 x7 y0 y1 y2 y3 y4 y5 y6 y7 p0 p1 p2 p3 p4 p5 p6 p7 z0 z1 z2 z3 z4 z5 z6 z7
        have HB0 := Lib.hid hB2
        have HR2 := Lib.hid hR2
        have HK0 := Lib.hid hk0
        have HK1 := Lib.hid hk1
        clear hk0 hk1 hB2 hR2
        by_cases h3 : T3 = 0
        · subst h3
          rw [if_pos rfl] at HO
          have hw2 : w.heap.size + 2 ≤ w3.heap.size := by have := HK1.out.lt; omega
          have hlB : Below w3.heap.size w3 (w3.alloc (.cells #[.string a, .int .i64 (-1), .string b, .int .i64 q] 133)) := (Below.refl _ _).alloc (Nat.le_refl _) _
          have hlN : RNames (w3.alloc (.cells #[.string a, .int .i64 (-1), .string b, .int .i64 q] 133)) (.slice (some ⟨w3.heap.size, 0, none⟩) 2 2) [(a, (-1)), (b, q)] :=
            .inr ⟨w3.heap.size, 0, 2, rfl, by simp, fun j n hj => by
              match j with
              | 0 => cases hj; exact ⟨(Blk.new w3 133 [.string a, .int .i64 (-1), .string b, .int .i64 q]).cell rfl, (Blk.new w3 133 [.string a, .int .i64 (-1), .string b, .int .i64 q]).cell rfl⟩
              | 1 => cases hj; exact ⟨(Blk.new w3 133 [.string a, .int .i64 (-1), .string b, .int .i64 q]).cell rfl, (Blk.new w3 133 [.string a, .int .i64 (-1), .string b, .int .i64 q]).cell rfl⟩
              | j + 2 => cases hj⟩
          have hTR := refTurnR (P := fun k => (P k ∧ k < w.heap.size) ∨ w.heap.size + 2 ≤ k) _ _ ⟨room1, files1, dir1, sure1, changes1, steps1, left1, plan1⟩ [(a, (-1)), (b, q)] (w3.alloc (.cells #[.string a, .int .i64 (-1), .string b, .int .i64 q] 133)) ((HR2.out.below hlB).mono fun _ hk => .inl hk) HKT.out hlN (by simp) (fun k hk => by cases hk; exact .inr hw2)
          have HTR := Lib.hid hTR
          have HLB := Lib.hid hlB
          have HW2 := Lib.hid hw2
          clear hTR hlB hlN hw2
          obtain ⟨x0, x1, x2, x3, x4, x5, x6, x7, y0, y1, y2, y3, y4, y5, y6, y7⟩ := HK0.out.fs
          obtain ⟨p0, p1, p2, p3, p4, p5, p6, p7, z0, z1, z2, z3, z4, z5, z6, z7⟩ := (show Blk _ (w.heap.size + 1) 33 [.int .i64 0, .slice none 0 0, .slice none 0 0, .slice none 0 0, .slice none 0 0, .int .i64 0, .int .i64 0, .slice none 0 0] from HK1.out).fs
          go_wp2_with fail
          clear x0 x1 x2 x3 x4 x5 x6 x7 y0 y1 y2 y3 y4 y5 y6 y7 p0 p1 p2 p3 p4 p5 p6 p7 z0 z1 z2 z3 z4 z5 z6 z7
          refine HTR.out.mono ?_; rintro e w5 ⟨v5, rfl, hR5, hb5⟩
          have hb5' := HLB.out.trans (hb5.mono HLB.out.size)
          have hk0 := (show Blk w5 w.heap.size 33 [.int .i64 room1, .slice fa1 files1.length fc1, .slice da1 dir1.length dc1, .slice sa1 sure1.length sc1, .slice ca1 changes1.length cc1, .int .i64 steps1, .int .i64 left1, .slice pa1 plan1.length pc1] from (hb5'.block _ HK0.out.lt).trans HK0.out)
          have hk1 := (show Blk w5 (w.heap.size + 1) 33 zeroC from (hb5'.block _ HK1.out.lt).trans HK1.out)
          have hB := HB0.out.trans (hb5'.mono HB0.out.size)
          clear HK0 HK1 HB0
          have HK0 := Lib.hid hk0
          have HK1 := Lib.hid hk1
          have HB0 := Lib.hid hB
          clear hk0 hk1 hB
          obtain ⟨fa5, fc5, da5, dc5, sa5, sc5, ca5, cc5, pa5, pc5, cvs5, rfl, -⟩ := hR5.parts
          have HR5 := Lib.hid (hR5.mono (Q := fun k => (P k ∧ k < w.heap.size) ∨ w.heap.size + 2 ≤ k) fun k hk => hk.elim id (fun h => .inr (by have := HW2.out; have := HLB.out.size; omega)))
          generalize turnS ⟨room1, files1, dir1, sure1, changes1, steps1, left1, plan1⟩ [(a, (-1)), (b, q)] = T5 at *
          obtain ⟨room5, files5, dir5, sure5, changes5, steps5, left5, plan5⟩ := T5
          simp only at HR5 HO
          clear hR5 hb5 hb5' HTR
          obtain ⟨x0, x1, x2, x3, x4, x5, x6, x7, y0, y1, y2, y3, y4, y5, y6, y7⟩ := HK0.out.fs
          obtain ⟨p0, p1, p2, p3, p4, p5, p6, p7, z0, z1, z2, z3, z4, z5, z6, z7⟩ := (show Blk _ (w.heap.size + 1) 33 [.int .i64 0, .slice none 0 0, .slice none 0 0, .slice none 0 0, .slice none 0 0, .int .i64 0, .int .i64 0, .slice none 0 0] from HK1.out).fs
          go_wp2_with fail
          have hkF := putFS_blk HK1.out (.int .i64 room5) (.slice fa5 files5.length fc5) (.slice da5 dir5.length dc5) (.slice sa5 sure5.length sc5) (.slice ca5 changes5.length cc5) (.int .i64 steps5) (.int .i64 left5) (.slice pa5 plan5.length pc5)
          obtain ⟨d0, d1, d2, d3, d4, d5, d6, d7, -⟩ := hkF.fs
          unfold putFS at d0 d1 d2 d3 d4 d5 d6 d7
          refine bodyPost_ret (v := .tuple #[.agg #[.int .i64 room5, .slice fa5 files5.length fc5, .slice da5 dir5.length dc5, .slice sa5 sure5.length sc5, .slice ca5 changes5.length cc5, .int .i64 steps5, .int .i64 left5, .slice pa5 plan5.length pc5], .int .i64 0]) (by simp [results, Tryz.results58, go_sem, d0, d1, d2, d3, d4, d5, d6, d7]) rfl ⟨_, by rw [HO.out], ?_, ?_⟩
          · rw [HO.out]; exact (HR5.out.to fun k hk => putFS_other (show k ≠ w.heap.size + 1 by rcases hk with hk | hk <;> omega) _ _ _ _ _ _ _ _).mono fun _ hk => hk.imp (fun h => h.1) (fun h => by omega)
          · exact putFS_below HB0.out (by omega) _ _ _ _ _ _ _ _
        · rw [if_neg h3] at HO
          obtain ⟨x0, x1, x2, x3, x4, x5, x6, x7, y0, y1, y2, y3, y4, y5, y6, y7⟩ := HK0.out.fs
          obtain ⟨p0, p1, p2, p3, p4, p5, p6, p7, z0, z1, z2, z3, z4, z5, z6, z7⟩ := (show Blk _ (w.heap.size + 1) 33 [.int .i64 0, .slice none 0 0, .slice none 0 0, .slice none 0 0, .slice none 0 0, .int .i64 0, .int .i64 0, .slice none 0 0] from HK1.out).fs
          go_wp2_with fail
          have hkF := putFS_blk HK1.out (.int .i64 room1) (.slice fa1 files1.length fc1) (.slice da1 dir1.length dc1) (.slice sa1 sure1.length sc1) (.slice ca1 changes1.length cc1) (.int .i64 steps1) (.int .i64 left1) (.slice pa1 plan1.length pc1)
          obtain ⟨d0, d1, d2, d3, d4, d5, d6, d7, -⟩ := hkF.fs
          unfold putFS at d0 d1 d2 d3 d4 d5 d6 d7
          refine bodyPost_ret (v := .tuple #[.agg #[.int .i64 room1, .slice fa1 files1.length fc1, .slice da1 dir1.length dc1, .slice sa1 sure1.length sc1, .slice ca1 changes1.length cc1, .int .i64 steps1, .int .i64 left1, .slice pa1 plan1.length pc1], .int .i64 T3]) (by simp [results, Tryz.results58, go_sem, d0, d1, d2, d3, d4, d5, d6, d7]) rfl ⟨_, by rw [HO.out], ?_, ?_⟩
          · rw [HO.out]; exact (HR2.out.to fun k hk => putFS_other (show k ≠ w.heap.size + 1 by have := hk.2; omega) _ _ _ _ _ _ _ _).mono fun _ hk => .inl hk.1
          · exact putFS_below HB0.out (by omega) _ _ _ _ _ _ _ _
end Go.Proofs.YtigbgajelkknbaaGreatDoor
namespace Go.Proofs.YtigbgajelkknbaaGreatDoor
open Go.RowKit Go.Maps Go.WideMaps
set_option maxRecDepth 100000

/-- The bytes of a name. -/
abbrev nmL (x : RN) : List UInt8 := x.1.data.toList
/-- Names rise. -/
def Rising (l : List RN) : Prop := l.Pairwise fun a b => nmL a < nmL b
theorem less_iff (a b : ByteArray) : Op.bytesLess a.toList b.toList = true ↔ a.data.toList < b.data.toList := by
  rw [ByteArray.toList_eq, ByteArray.toList_eq, bytesLess_eq]; simp
theorem data_inj {a b : ByteArray} (h : a.data.toList = b.data.toList) : a = b := ByteArray.ext (Array.toList_inj.1 h)
theorem withGo_mem (n : RN) : ∀ (l : List RN) (d : Bool) (y : RN), y ∈ withGo n l d → y ∈ l ∨ (y = n ∧ d = false)
  | [], d, y, h => by
    unfold withGo at h
    cases d
    · simp at h; exact .inr ⟨h, rfl⟩
    · simp at h
  | x :: l, d, y, h => by
    unfold withGo at h
    split at h
    · exact (withGo_mem n l d y h).imp (List.mem_cons_of_mem _) id
    · split at h
      · rename_i hd
        rcases List.mem_cons.1 h with rfl | h
        · exact .inr ⟨rfl, hd.1⟩
        · rcases List.mem_cons.1 h with rfl | h
          · exact .inl List.mem_cons_self
          · rcases withGo_mem n l true y h with h | h
            · exact .inl (List.mem_cons_of_mem _ h)
            · cases h.2
      · rcases List.mem_cons.1 h with rfl | h
        · exact .inl List.mem_cons_self
        · exact (withGo_mem n l d y h).imp (List.mem_cons_of_mem _) id
theorem withGo_rise (n : RN) : ∀ (l : List RN) (d : Bool), Rising l → Rising (withGo n l d)
  | [], d, _ => by unfold withGo; cases d <;> simp [Rising]
  | x :: l, d, h => by
    obtain ⟨h1, h2⟩ := List.pairwise_cons.1 h
    unfold withGo
    split
    · exact withGo_rise n l d h2
    · rename_i hne
      split
      · rename_i hd
        have hlt := (less_iff _ _).1 hd.2
        refine List.pairwise_cons.2 ⟨fun y hy => ?_, List.pairwise_cons.2 ⟨fun y hy => ?_, withGo_rise n l true h2⟩⟩
        · rcases List.mem_cons.1 hy with rfl | hy
          · exact hlt
          · rcases withGo_mem n l true y hy with hy | hy
            · exact List.lt_trans hlt (h1 y hy)
            · cases hy.2
        · rcases withGo_mem n l true y hy with hy | hy
          · exact h1 y hy
          · cases hy.2
      · rename_i hd
        refine List.pairwise_cons.2 ⟨fun y hy => ?_, withGo_rise n l d h2⟩
        rcases withGo_mem n l d y hy with hy | ⟨rfl, hdf⟩
        · exact h1 y hy
        · have hnl : ¬ nmL y < nmL x := fun e => hd ⟨hdf, (less_iff _ _).2 e⟩
          have hle : nmL x ≤ nmL y := hnl
          rcases List.le_iff_lt_or_eq.1 hle with h | h
          · exact h
          · exact absurd (data_inj h) hne
theorem withGo_other (n : RN) {s : ByteArray} (hs : s ≠ n.1) : ∀ (l : List RN) (d : Bool), findR (withGo n l d) s = findR l s
  | [], d => by
    unfold withGo
    cases d
    · show (if n.1 = s then n.2 else -1) = -1
      rw [if_neg (fun e => hs e.symm)]
    · rfl
  | x :: l, d => by
    have h0 : findR (x :: l) s = if x.1 = s then x.2 else findR l s := rfl
    unfold withGo
    split
    · rename_i he
      rw [withGo_other n hs l d, h0, if_neg (fun e => hs (by rw [← e, he]))]
    · split
      · show (if n.1 = s then n.2 else if x.1 = s then x.2 else findR (withGo n l true) s) = _
        rw [if_neg (fun e => hs e.symm), withGo_other n hs l true, h0]
      · show (if x.1 = s then x.2 else findR (withGo n l d) s) = _
        rw [withGo_other n hs l d, h0]
theorem withGo_same (n : RN) : ∀ (l : List RN) (d : Bool), findR (withGo n l d) n.1 = if d = true then -1 else n.2
  | [], d => by
    unfold withGo
    cases d
    · show (if n.1 = n.1 then n.2 else -1) = _
      rw [if_pos rfl]; rfl
    · rfl
  | x :: l, d => by
    unfold withGo
    split
    · exact withGo_same n l d
    · rename_i hne
      split
      · rename_i hd
        show (if n.1 = n.1 then n.2 else _) = _
        rw [if_pos rfl, hd.1]; rfl
      · show (if x.1 = n.1 then x.2 else findR (withGo n l d) n.1) = _
        rw [if_neg hne, withGo_same n l d]
theorem findR_none {s : ByteArray} : ∀ (l : List RN), (∀ x ∈ l, x.1 ≠ s) → findR l s = -1
  | [], _ => rfl
  | x :: l, h => by
    show (if x.1 = s then x.2 else findR l s) = _
    rw [if_neg (h x List.mem_cons_self), findR_none l fun y hy => h y (List.mem_cons_of_mem _ hy)]
theorem findR_mem {x : RN} : ∀ (l : List RN), Rising l → x ∈ l → findR l x.1 = x.2
  | [], _, h => by cases h
  | y :: l, hr, h => by
    obtain ⟨h1, h2⟩ := List.pairwise_cons.1 hr
    show (if y.1 = x.1 then y.2 else findR l x.1) = _
    rcases List.mem_cons.1 h with rfl | h
    · rw [if_pos rfl]
    · rw [if_neg (fun e => by have := h1 x h; unfold nmL at this; rw [e] at this; exact absurd this (List.lt_irrefl _)), findR_mem l h2 h]
theorem findR_some {s : ByteArray} : ∀ (l : List RN), (∃ x ∈ l, x.1 = s ∧ findR l s = x.2) ∨ ((∀ x ∈ l, x.1 ≠ s) ∧ findR l s = -1)
  | [] => .inr ⟨fun _ h => (by cases h), rfl⟩
  | y :: l => by
    by_cases e : y.1 = s
    · exact .inl ⟨y, List.mem_cons_self, e, if_pos e⟩
    · have h0 : findR (y :: l) s = findR l s := if_neg e
      rcases findR_some (s := s) l with ⟨x, h1, h2, h3⟩ | ⟨h1, h2⟩
      · exact .inl ⟨x, List.mem_cons_of_mem _ h1, h2, h0.trans h3⟩
      · refine .inr ⟨fun x hx => ?_, h0.trans h2⟩
        rcases List.mem_cons.1 hx with rfl | hx
        · exact e
        · exact h1 x hx
theorem rise_nodup {l : List RN} (h : Rising l) : (l.map nmL).Nodup := by
  refine List.pairwise_map.2 (List.Pairwise.imp (fun {a b} hab e => ?_) h)
  rw [e] at hab; exact List.lt_irrefl _ hab

/-- The map D tells the same as the names l; numbers below N. -/
structure Rep (fl : Nat → Option Fil) (N : Nat) (D : DataW Unit) (l : List RN) : Prop where
  rise : Rising l
  num : ∀ x ∈ l, 0 ≤ x.2 ∧ x.2 < N
  look : ∀ s, (dget D s = none ∧ findR l s = -1) ∨ ∃ b f, dget D s = some b ∧ fl b = some f ∧ findR l s = f.num
section
variable {fl fl' : Nat → Option Fil} {N N' : Nat} {D : DataW Unit} {l : List RN}
theorem Rep.put (h : Rep fl N D l) (hD : Maps.IsMap D) {s : ByteArray} {b : Nat} {f : Fil} (hb : fl b = some f) (hn : 0 ≤ f.num ∧ f.num < N) : Rep fl N (D.put (keyL s) (.lit (.int .i64 (b : Nat)))) (withR l (s, f.num)) := by
  have hd : decide ((s, f.num).2 < 0) = false := decide_eq_false (by show ¬ f.num < 0; omega)
  refine ⟨withGo_rise _ l _ h.rise, fun x hx => ?_, fun t => ?_⟩
  · rcases withGo_mem _ l _ x hx with hx | ⟨rfl, _⟩
    · exact h.num x hx
    · exact hn
  · by_cases e : t = s
    · subst e
      refine .inr ⟨b, f, dget_put_same hD _ _, hb, ?_⟩
      unfold withR
      rw [withGo_same (t, f.num) l, hd]; rfl
    · rw [dget_put_other e]
      unfold withR
      rw [withGo_other (s, f.num) e]
      exact h.look t
theorem Rep.del (h : Rep fl N D l) (s : ByteArray) : Rep fl N (D.del (keyL s)) (withR l (s, -1)) := by
  have hd : decide (((s, -1) : RN).2 < 0) = true := rfl
  refine ⟨withGo_rise _ l _ h.rise, fun x hx => ?_, fun t => ?_⟩
  · rcases withGo_mem _ l _ x hx with hx | ⟨_, h0⟩
    · exact h.num x hx
    · rw [hd] at h0; cases h0
  · by_cases e : t = s
    · subst e
      refine .inl ⟨dget_del_same _, ?_⟩
      unfold withR
      rw [withGo_same (t, -1) l, hd]; rfl
    · rw [dget_del_other e]
      unfold withR
      rw [withGo_other (s, -1) e]
      exact h.look t
theorem Rep.mono (h : Rep fl N D l) (hf : ∀ b f, fl b = some f → ∃ f', fl' b = some f' ∧ f'.num = f.num) (hN : N ≤ N') : Rep fl' N' D l :=
  ⟨h.rise, fun x hx => ⟨(h.num x hx).1, by have := (h.num x hx).2; omega⟩, fun s => (h.look s).imp id fun ⟨b, f, h1, h2, h3⟩ => by
    obtain ⟨f', g1, g2⟩ := hf b f h2
    exact ⟨b, f', h1, g1, by rw [g2]; exact h3⟩⟩
/-- A name that is there. -/
theorem Rep.mem (h : Rep fl N D l) (hfl : ∀ b f, fl b = some f → 0 ≤ f.num) (s : ByteArray) : (∃ b, dget D s = some b) ↔ ∃ x ∈ l, x.1 = s := by
  rcases h.look s with ⟨h1, h2⟩ | ⟨b, f, h1, h2, h3⟩
  · rw [h1]
    refine ⟨fun ⟨b, hb⟩ => (by cases hb), fun ⟨x, hx, e⟩ => ?_⟩
    have h4 := findR_mem l h.rise hx
    rw [e, h2] at h4
    have := (h.num x hx).1; omega
  · rw [h1]
    refine ⟨fun _ => ?_, fun _ => ⟨b, rfl⟩⟩
    rcases findR_some (s := s) l with ⟨x, g1, g2, _⟩ | ⟨_, g2⟩
    · exact ⟨x, g1, g2⟩
    · have := hfl b f h2; omega
theorem Rep.names (h : Rep fl N D l) (hfl : ∀ b f, fl b = some f → 0 ≤ f.num) (hT : Maps.Tidy D) (hO : OkD fl D) : namesD D = l.map nmL := by
  have hp : (strKeys D).Perm (l.map nmL) := by
    have hp0 : (namesD D).Perm (l.map nmL) := by
      refine (List.perm_ext_iff_of_nodup (names_nodup hT hO) (rise_nodup h.rise)).2 fun s => ?_
      rw [List.mem_map]
      constructor
      · intro hs
        obtain ⟨b, f, h1, h2, _⟩ := name_file hO hs
        obtain ⟨x, g1, g2⟩ := (h.mem hfl _).1 ⟨b, h1⟩
        exact ⟨x, g1, by unfold nmL; rw [g2]⟩
      · rintro ⟨x, hx, rfl⟩
        obtain ⟨b, hb⟩ := (h.mem hfl x.1).2 ⟨x, hx, rfl⟩
        refine mem_names hT.isMap (b := b) ?_
        rw [bytes_back]; exact hb
    exact (List.mergeSort_perm _ _).symm.trans hp0
  unfold namesD
  rw [mergeSort_of_perm hp]
  refine List.mergeSort_of_pairwise (List.pairwise_map.2 (List.Pairwise.imp (fun {a b} hab => ?_) h.rise))
  simp only [leB, decide_eq_true_eq]
  exact List.le_of_lt hab
theorem Rep.length (h : Rep fl N D l) (hfl : ∀ b f, fl b = some f → 0 ≤ f.num) (hT : Maps.Tidy D) (hO : OkD fl D) : l.length = Maps.size D := by
  have h1 := h.names hfl hT hO
  have h2 := names_size hT.isMap
  rw [h1, List.length_map] at h2
  exact h2
end
end Go.Proofs.YtigbgajelkknbaaGreatDoor
namespace Go.Proofs.YtigbgajelkknbaaGreatDoor
open Go.RowKit
set_option maxRecDepth 100000

theorem rfInfo : (Tryz.prog.info? 135).map (fun i => (i.zero, i.size, i.bytes)) = some (some (.agg #[.string ⟨#[]⟩, .int .i64 0]), 2, 24) := by kernel_rfl
/-- Files in a row of one's own. -/
def OwnRF (base : Nat) (w : World) (v : Value) (l : List RN) : Prop := w.ownsRow base 135 2 v l.length (flatRN l)
theorem flatRN_get : ∀ (l : List RN) (j : Nat) (u : Value), (flatRN l)[j]? = some u → ∃ n, l[j / 2]? = some n ∧ ((j % 2 = 0 ∧ u = .string n.1) ∨ (j % 2 = 1 ∧ u = .int .i64 n.2))
  | [], j, u, h => by cases h
  | n :: l, 0, u, h => by cases h; exact ⟨n, rfl, .inl ⟨rfl, rfl⟩⟩
  | n :: l, 1, u, h => by cases h; exact ⟨n, rfl, .inr ⟨rfl, rfl⟩⟩
  | n :: l, j + 2, u, h => by
    have e : flatRN (n :: l) = .string n.1 :: .int .i64 n.2 :: flatRN l := rfl
    rw [e] at h
    obtain ⟨m, h1, h2⟩ := flatRN_get l j u (by simpa using h)
    refine ⟨m, ?_, ?_⟩
    · rw [show (j + 2) / 2 = j / 2 + 1 by omega]; simpa using h1
    · rw [show (j + 2) % 2 = j % 2 by omega]; exact h2
theorem flatRN_nth : ∀ (l : List RN) (j : Nat) (n : RN), l[j]? = some n → (flatRN l)[j * 2]? = some (.string n.1) ∧ (flatRN l)[j * 2 + 1]? = some (.int .i64 n.2)
  | [], j, n, h => by cases h
  | a :: l, 0, n, h => by cases h; exact ⟨rfl, rfl⟩
  | a :: l, j + 1, n, h => by
    have := flatRN_nth l j n (by simpa using h)
    have e : flatRN (a :: l) = .string a.1 :: .int .i64 a.2 :: flatRN l := rfl
    rw [e, show (j + 1) * 2 = j * 2 + 1 + 1 by omega]
    simpa using this
theorem flatRN_append (l m : List RN) : flatRN (l ++ m) = flatRN l ++ flatRN m := by simp [flatRN]
theorem flatRN_length (l : List RN) : (flatRN l).length = l.length * 2 := by
  induction l with
  | nil => rfl
  | cons a l ih => rw [show flatRN (a :: l) = .string a.1 :: .int .i64 a.2 :: flatRN l from rfl]; simp [ih]; omega
theorem flatRN_one (l : List RN) : ∀ u ∈ flatRN l, u.oneCell' = true := by
  intro u hu
  obtain ⟨n, _, h⟩ := List.mem_flatMap.1 hu
  rcases List.mem_cons.1 h with rfl | h
  · rfl
  · rw [List.mem_singleton] at h; subst h; rfl
theorem flatRN_set : ∀ (l : List RN) (i : Nat) (x : RN), flatRN (l.set i x) = ((flatRN l).set (i * 2) (.string x.1)).set (i * 2 + 1) (.int .i64 x.2)
  | [], i, x => by simp [flatRN]
  | a :: l, 0, x => rfl
  | a :: l, i + 1, x => by
    have e : flatRN (a :: l) = .string a.1 :: .int .i64 a.2 :: flatRN l := rfl
    rw [List.set_cons_succ, show flatRN (a :: l.set i x) = .string a.1 :: .int .i64 a.2 :: flatRN (l.set i x) from rfl, flatRN_set l i x, e, show (i + 1) * 2 = i * 2 + 1 + 1 by omega]
    simp
section
variable {base : Nat} {w w' : World} {v : Value} {l : List RN}
theorem OwnRF.slice (h : OwnRF base w v l) : ∃ a c, v = .slice a l.length c := by
  rcases h.2 with ⟨rfl, h0⟩ | ⟨x, cap, cur, rfl, _⟩
  · exact ⟨none, 0, by rw [h0]⟩
  · exact ⟨_, _, rfl⟩
theorem OwnRF.own (h : OwnRF base w v l) : ∀ j, v.ownBlock = some j → base ≤ j := by
  rcases h.2 with ⟨rfl, _⟩ | ⟨x, cap, cur, rfl, hb, _⟩
  · intro j hj; cases hj
  · intro j hj; cases hj; exact hb
theorem OwnRF.names (h : OwnRF base w v l) : RNames w v l := by
  rcases h.2 with ⟨rfl, h0⟩ | ⟨x, cap, cur, rfl, hb, hh, h1, h2, h3, h4⟩
  · exact .inl ⟨rfl, List.length_eq_zero_iff.1 h0⟩
  · refine .inr ⟨x, 0, cap, rfl, (Array.getElem?_eq_some_iff.1 hh).1, fun j n hj => ?_⟩
    have hjl : j < l.length := (List.getElem?_eq_some_iff.1 hj).1
    obtain ⟨f1, f2⟩ := flatRN_nth l j n hj
    rw [← h4, List.getElem?_take_of_lt (by omega)] at f1 f2
    constructor
    · rw [cell_of_row w x (0 + j * 2) cur _ _ hh, ← Array.getElem?_toList, Nat.zero_add]; exact f1
    · rw [cell_of_row w x (0 + j * 2 + 1) cur _ _ hh, ← Array.getElem?_toList, Nat.zero_add]; exact f2
theorem OwnRF.empty (w : World) : OwnRF w.heap.size (w.alloc (.cells #[] 135)) (.slice (some ⟨w.heap.size, 0, none⟩) 0 0) [] :=
  ⟨rfl, .inr ⟨w.heap.size, 0, #[], rfl, Nat.le_refl _, heap_alloc_new w _, Nat.le_refl _, by unfold maxLen; omega, rfl, rfl⟩⟩
theorem OwnRF.cell {g : Addr} {n c : Nat} (h : OwnRF base w (.slice (some g) n c) l) (i : Nat) (hi : i < l.length) :
    g.off = 0 ∧ g.spot = none ∧ base ≤ g.block ∧ g.block < w.heap.size ∧ (∃ a b, w.cell? ⟨g.block, i * 2, none⟩ = some a ∧ w.cell? ⟨g.block, i * 2 + 1, none⟩ = some b) ∧ ∀ k, w.frozen? ⟨g.block, k, none⟩ = false := by
  rcases h.2 with ⟨h1, _⟩ | ⟨x, cap, cur, h1, h2, h3, h4, _, h5, h6⟩
  · cases h1
  · cases h1
    have hl := congrArg List.length h6
    rw [flatRN_length, List.length_take] at hl
    refine ⟨rfl, rfl, h2, (Array.getElem?_eq_some_iff.1 h3).1, ⟨cur[i * 2]'(by have := Array.length_toList (xs := cur); omega), cur[i * 2 + 1]'(by have := Array.length_toList (xs := cur); omega), ?_, ?_⟩, fun k => frozen_of_row w x k cur _ h3⟩
    · rw [cell_of_row w x _ cur _ _ h3]; simp
    · rw [cell_of_row w x _ cur _ _ h3]; simp
theorem OwnRF.set {g : Addr} {n c : Nat} (h : OwnRF base w (.slice (some g) n c) l) (i : Nat) (x : RN) :
    OwnRF base ((w.setCell ⟨g.block, i * 2, none⟩ (.string x.1)).setCell ⟨g.block, i * 2 + 1, none⟩ (.int .i64 x.2)) (.slice (some g) n c) (l.set i x) := by
  have h0 := h.1
  refine ⟨by rw [flatRN_length], ?_⟩
  rcases h.2 with ⟨h1, _⟩ | ⟨y, cap, cur, h1, h2, h3, h4, h4', h5, h6⟩
  · cases h1
  · cases h1
    refine .inr ⟨y, c, (cur.setIfInBounds (i * 2) (.string x.1)).setIfInBounds (i * 2 + 1) (.int .i64 x.2), by rw [List.length_set], h2, heap_setCell_same _ y (i * 2 + 1) _ _ (.int .i64 x.2) (heap_setCell_same w y (i * 2) cur _ (.string x.1) h3), by rw [List.length_set]; exact h4, h4', by simpa using h5, ?_⟩
    rw [List.length_set, Array.toList_setIfInBounds, Array.toList_setIfInBounds, flatRN_set, ← h6, List.take_set, List.take_set]
end
/-- An append of files to what the call owns, from any slice of them, as a step of the walk. -/
theorem wpList_append_rf {ops : Array Oper} {rest : List Oper} {o : Oper} {a : Act} {w w0 : World} {Q : Exit → Act → World → Prop} (hgd : o.guard = none) (s x : Operand)
    (ho : o.op = .call { callee := .builtin .append, args := #[s, x], argTypes := #[29, 29] })
    (base : Nat) (v u : Value) (ys p : List RN) (hs : a.eval s = v) (hown : OwnRF base w v ys) (hx : a.eval x = u) (hp : RNames w0 u p) (hb : Below w0.heap.size w0 w) (hle : ys.length + p.length ≤ 1000000) (hbase : base ≤ w.heap.size)
    (h : ∀ v' w', OwnRF base w' v' (ys ++ p) → w.grownBy w' v.ownBlock → wpList Tryz.prog ops Q rest (a.put o.dst v') w') : wpList Tryz.prog ops Q (o :: rest) a w := by
  obtain ⟨i0, hi, hz0, hz1, hz2⟩ := info_parts rfInfo
  rcases hp with ⟨rfl, rfl⟩ | ⟨pb, po, cap, rfl, h3, h4⟩
  · refine wpList_append_own_none hgd s x 29 ho base 135 i0 2 Tryz.underlying29 hi v ys.length (flatRN ys) hs hown hx ?_
    exact h v w (by rw [List.append_nil]; exact hown) ⟨rfl, rfl, rfl, Nat.le_refl _, fun _ _ _ => rfl⟩
  · refine wpList_append_own w hgd s x 29 ho base 135 i0 (.agg #[.string ⟨#[]⟩, .int .i64 0]) 2 24 Tryz.underlying29 hi hz0 hz1 hz2 rfl (by decide) v ys.length (flatRN ys) hs hown ⟨pb, po, none⟩ p.length cap (flatRN p) hx
      (flatRN_length p) (fun j u hu => ?_) (flatRN_one p) (by unfold maxLen; omega) (by omega) hbase ?_
    · obtain ⟨n, hn, hc⟩ := flatRN_get p j u hu
      obtain ⟨g1, g2⟩ := h4 _ n hn
      rw [Addr.add_mid, World.cell?_of_block (w := w0) (hb.block pb h3)]
      rcases hc with ⟨hm, rfl⟩ | ⟨hm, rfl⟩
      · rwa [show po + j / 2 * 2 = po + j by omega] at g1
      · rwa [show po + j / 2 * 2 + 1 = po + j by omega] at g2
    · intro v' w' h1 h2 _
      refine h v' w' ?_ h2
      unfold OwnRF
      rw [List.length_append, flatRN_append]; exact h1
/-- One that is empty. -/
def emptyR : RSt := ⟨0, [], [], [], [], 0, 0, []⟩
/-- What 'New' makes, and the error. -/
def newR (room : Int) : RSt × Int := if room < 1 then (emptyR, 1) else if 1048576 < room then (emptyR, 1) else ({ emptyR with room := room, left := -1 }, 0)
theorem RFs.bare (P : Nat → Prop) (w : World) (room left : Int) : RFs P w (.agg #[.int .i64 room, .slice none 0 0, .slice none 0 0, .slice none 0 0, .slice none 0 0, .int .i64 0, .int .i64 left, .slice none 0 0]) { emptyR with room := room, left := left } :=
  RFs.mk (R := { emptyR with room := room, left := left }) (cvs := []) (.inl ⟨rfl, rfl⟩) (.inl ⟨rfl, rfl⟩) (.inl ⟨rfl, rfl⟩) (.inl ⟨rfl, rfl⟩) ⟨rfl, fun i c h => by cases h⟩ (.inl ⟨rfl, rfl⟩)
    (fun k hk => by cases hk) (fun k hk => by cases hk) (fun k hk => by cases hk) (fun k hk => by cases hk) (fun k hk => by cases hk.1)
set_option maxRecDepth 100000 in
set_option maxHeartbeats 2000000 in
theorem refNew_any (P : Nat → Prop) (room : Int) (w : World) :
    Calls Tryz.prog 11 #[.int .i64 room] w fun e w' => ∃ v', e = .returned (.tuple #[v', .int .i64 (newR room).2]) ∧ RFs P w' v' (newR room).1 ∧ Below w.heap.size w w' := by
  have HN1 : Hid (room < 1 → newR room = (emptyR, 1)) := fun h => if_pos h
  have HN2 : Hid (¬ room < 1 → 1048576 < room → newR room = (emptyR, 1)) := fun h h' => by unfold newR; rw [if_neg h, if_pos h']
  have HN3 : Hid (¬ room < 1 → ¬ 1048576 < room → newR room = ({ emptyR with room := room, left := -1 }, 0)) := fun h h' => by unfold newR; rw [if_neg h, if_neg h']
  have HBB : Hid (∀ A, Below w.heap.size w (w.alloc A)) := fun A => (Below.refl _ _).alloc (Nat.le_refl _) A
  go_enter Tryz.func11, Tryz.ntmps11
  by_cases h1 : room < 1
  · go_wp2_with fail
    refine bodyPost_ret (v := .tuple #[.agg #[.int .i64 0, .slice none 0 0, .slice none 0 0, .slice none 0 0, .slice none 0 0, .int .i64 0, .int .i64 0, .slice none 0 0], .int .i64 1]) (by simp [results, Tryz.results11, go_sem]) rfl ⟨_, by rw [HN1.out h1], ?_, HBB.out _⟩
    rw [HN1.out h1]; exact RFs.bare P _ 0 0
  by_cases h2 : 1048576 < room
  · go_wp2_with fail
    refine bodyPost_ret (v := .tuple #[.agg #[.int .i64 0, .slice none 0 0, .slice none 0 0, .slice none 0 0, .slice none 0 0, .int .i64 0, .int .i64 0, .slice none 0 0], .int .i64 1]) (by simp [results, Tryz.results11, go_sem]) rfl ⟨_, by rw [HN2.out h1 h2], ?_, HBB.out _⟩
    rw [HN2.out h1 h2]; exact RFs.bare P _ 0 0
  · go_wp2_with fail
    refine bodyPost_ret (v := .tuple #[.agg #[.int .i64 room, .slice none 0 0, .slice none 0 0, .slice none 0 0, .slice none 0 0, .int .i64 0, .int .i64 (-1), .slice none 0 0], .int .i64 0]) (by simp [results, Tryz.results11, go_sem]) rfl ⟨_, by rw [HN3.out h1 h2], ?_, HBB.out _⟩
    rw [HN3.out h1 h2]; exact RFs.bare P _ room (-1)
/-- The bytes of the file with this number. -/
def szR (R : RSt) (i : Int) : Nat := ((R.files.getD i.toNat (⟨#[]⟩, 0)).1).size
/-- What 'Used' answers. -/
def usedR (R : RSt) : Nat := (R.dir.map fun x => szR R x.2).sum
/-- Its names are of files that are there; files are of a size. -/
structure RWell (R : RSt) : Prop where
  dir : ∀ x ∈ R.dir, 0 ≤ x.2 ∧ x.2 < R.files.length
  size : ∀ f ∈ R.files, f.1.size ≤ 1000000
theorem sum_take (l : List RN) (g : RN → Nat) {i : Nat} (hi : i < l.length) : ((l.take (i + 1)).map g).sum = ((l.take i).map g).sum + g l[i] := by
  rw [List.take_succ_eq_append_getElem hi, List.map_append, List.sum_append]; show _ + (g l[i] + 0) = _; rw [Nat.add_zero]
theorem sum_le (l : List RN) (g : RN → Nat) (B : Nat) (h : ∀ x, g x ≤ B) : (l.map g).sum ≤ l.length * B := by
  induction l with
  | nil => simp
  | cons a l ih => have := h a; simp [Nat.succ_mul]; omega
set_option maxRecDepth 100000 in
set_option maxHeartbeats 2000000 in
theorem refUsed_any {P : Nat → Prop} (v : Value) (R : RSt) (w : World) (h : RFs P w v R) (hk : ROk R) (hw : RWell R) :
    Calls Tryz.prog 66 #[v] w fun e w' => e = .returned (.int .i64 (usedR R : Nat)) ∧ Below w.heap.size w w' := by
  obtain ⟨fa, fc, da, dc, sa, sc, ca, cc, pa, pc, cvs, rfl, h1, h2, -⟩ := h.parts
  have HB : Hid (∀ A, Below w.heap.size w (w.alloc A)) := fun A => (Below.refl _ _).alloc (Nat.le_refl _) A
  have H1 := Lib.hid h1
  have H2 := Lib.hid h2
  have HD := Lib.hid hk.dir
  have HW := Lib.hid hw
  have hsz : ∀ x : RN, szR R x.2 ≤ 1000000 := fun x => by
    unfold szR
    rw [List.getD_eq_getElem?_getD]
    cases e : R.files[x.2.toNat]? with
    | none => exact Nat.zero_le _
    | some f => exact hw.size f (List.mem_of_getElem? e)
  have HSZ := Lib.hid hsz
  clear h hk hw h1 h2 hsz
  go_enter Tryz.func66, Tryz.ntmps66
  go_wp2_with fail
  refine wp_world fun wB hwB => ?_
  have hBB : Below w.heap.size w wB := by rw [hwB]; exact HB.out _
  have hK0 : Blk wB w.heap.size 33 [.int .i64 R.room, .slice fa R.files.length fc, .slice da R.dir.length dc, .slice sa R.sure.length sc, .slice ca R.changes.length cc, .int .i64 R.steps, .int .i64 R.left, .slice pa R.plan.length pc] := by rw [hwB]; exact Blk.new w 33 _
  have HBB := Lib.hid hBB
  have HK0 := Lib.hid hK0
  clear hwB hBB hK0
  go_loopw [3, 8] (fun s3 s8 wr => ∃ i : Nat, i ≤ R.dir.length ∧ s8 = .int .i64 i ∧ s3 = .int .i64 (((R.dir.take i).map fun x => szR R x.2).sum : Nat) ∧ Below wB.heap.size wB wr)
    (fun _ s8 _ => R.dir.length - (intOf s8).toNat)
  case atStart => exact ⟨0, Nat.zero_le _, rfl, rfl, Below.refl _ _⟩
  case round =>
    obtain ⟨i, hi, rfl, rfl, hbr⟩ := hrel
    by_cases hlt : i < R.dir.length
    · have li : (i : Int) < R.dir.length := by omega
      have hb2 := HBB.out.trans (hbr.mono HBB.out.size)
      have hs0 := sum_take R.dir (fun x => szR R x.2) hlt
      have hs1 := sum_le (R.dir.take i) (fun x => szR R x.2) 1000000 (fun x => HSZ.out x)
      have hs2 := HSZ.out R.dir[i]
      have hmem := HW.out.dir R.dir[i] (List.getElem_mem hlt)
      rw [List.length_take] at hs1
      rcases H2.out.below hb2 with ⟨_, h0⟩ | ⟨b, o, cap, hv, hb, hc⟩
      · rw [h0] at hlt; simp at hlt
      cases hv
      have hcc := hc i _ (List.getElem?_eq_getElem hlt)
      generalize R.dir[i] = x at hs0 hs2 hmem hcc
      obtain ⟨xs, xf⟩ := x
      simp only at hs0 hs2 hmem hcc
      obtain ⟨k, rfl⟩ : ∃ k : Nat, xf = k := ⟨xf.toNat, by omega⟩
      have hkl : k < R.files.length := by omega
      have lk : (k : Int) < R.files.length := by omega
      rcases H1.out.below hb2 with ⟨_, h0⟩ | ⟨b', o', cap', hv', hb', hc'⟩
      · rw [h0] at hkl; simp at hkl
      cases hv'
      have hcf := hc' k _ (List.getElem?_eq_getElem hkl)
      have hsz : szR R (k : Int) = (R.files[k]).1.size := by unfold szR; simp [List.getD_eq_getElem?_getD, List.getElem?_eq_getElem hkl]
      rw [hsz] at hs0 hs2
      generalize R.files[k] = f at hs0 hs2 hcf
      obtain ⟨fd, fs⟩ := f
      simp only at hs0 hs2 hcf
      obtain ⟨c1, c2⟩ := hcc
      obtain ⟨c3, c4⟩ := hcf
      have hk0 := (show Blk wr w.heap.size 33 _ from (hbr.block _ HK0.out.lt).trans HK0.out)
      have x1 := hk0.cell (i := 1) rfl
      have x2 := hk0.cell (i := 2) rfl
      have hdl := HD.out
      generalize ((R.dir.take i).map fun x => szR R x.2).sum = t at hs0 hs1 ⊢
      have ht : t ≤ 5000000000 := by
        have : min i R.dir.length * 1000000 ≤ 5000 * 1000000 := Nat.mul_le_mul_right _ (by omega)
        omega
      have hadd : wrap64 ((t : Int) + (fd.size : Nat)) = (t : Int) + (fd.size : Nat) := by unfold wrap64; omega
      have HS0 := Lib.hid hs0
      have HBR := Lib.hid hbr
      clear hk0 hb hc hb' hc' hb2 hs0 hs1 hsz hbr
      go_upto_region 5 with fail
      go_quiet (fail)
      generalize hwA : wr.drewN nq = wA
      have hbA : Below wB.heap.size wB wA := by rw [← hwA]; exact Below.drewN HBR.out _
      clear hwA c1 c2 c3 c4 x1 x2
      go_wp2_with fail
      go_roundw
      case rel => exact ⟨i + 1, by omega, by go_num, by rw [HS0.out]; simp, hbA⟩
      case measure => simp [intOf]; omega
    · have li : ¬ ((i : Int) < R.dir.length) := by omega
      have HT := Lib.hid (show ((R.dir.take i).map fun x => szR R x.2).sum = usedR R by rw [List.take_of_length_le (by omega)]; rfl)
      have HBR := Lib.hid hbr
      generalize ((R.dir.take i).map fun x => szR R x.2).sum = t at HT ⊢
      clear hbr
      go_wp2_with fail
      go_ret
      exact ⟨by rw [HT.out]; rfl, HBB.out.trans (HBR.out.mono HBB.out.size)⟩
end Go.Proofs.YtigbgajelkknbaaGreatDoor
namespace Go.Proofs.YtigbgajelkknbaaGreatDoor
open Go.RowKit
set_option maxRecDepth 100000

/-- With one file as told. -/
def setR (R : RSt) (i : Nat) (x : RN) : RSt := { R with files := R.files.set i x }
set_option maxRecDepth 100000 in
set_option maxHeartbeats 2000000 in
theorem refSet_any {P : Nat → Prop} (v : Value) (R : RSt) (i : Nat) (x : RN) (w : World) (h : RFs P w v R) (hk : ROk R) (hi : i < R.files.length) :
    Calls Tryz.prog 114 #[v, .int .i64 i, .agg #[.string x.1, .int .i64 x.2]] w fun e w' => ∃ v', e = .returned v' ∧ RFs (fun k => P k ∨ w.heap.size ≤ k) w' v' (setR R i x) ∧ Below w.heap.size w w' := by
  obtain ⟨fa, fc, da, dc, sa, sc, ca, cc, pa, pc, cvs, rfl, h1, h2, h3, h4, h5, h6, o1, o2, o3, o4, o5⟩ := h.parts
  obtain ⟨xs, xf⟩ := x
  have HF := Lib.hid h1
  have HFL := Lib.hid hk.files
  have li : (i : Int) < R.files.length := by omega
  have HLT := Lib.hid hi
  -- the rest of it, in later worlds
  have HREST : Hid (∀ (W : World) (fv : Value), Below w.heap.size w W → RNames W fv (R.files.set i (xs, xf)) → OwnIn (fun k => w.heap.size ≤ k) fv →
      RFs (fun k => (P k ∧ k < w.heap.size) ∨ (w.heap.size ≤ k ∧ fv.ownBlock = some k)) W (.agg #[.int .i64 R.room, fv, .slice da R.dir.length dc, .slice sa R.sure.length sc, .slice ca R.changes.length cc, .int .i64 R.steps, .int .i64 R.left, .slice pa R.plan.length pc]) (setR R i (xs, xf))) := fun W fv hb hf ho =>
    RFs.mk (R := setR R i (xs, xf)) hf (h2.below hb) (h3.below hb) (h4.below hb) ⟨h5.1, fun j c hc => by obtain ⟨u, e1, e2, e3⟩ := h5.2 j c hc; exact ⟨u, e1, e2.below hb, fun k hk => .inl ⟨e3 k hk, e2.block k hk⟩⟩⟩ (h6.below hb)
      (fun k hk => .inr ⟨ho k hk, hk⟩) (fun k hk => .inl ⟨o2 k hk, h2.block k hk⟩) (fun k hk => .inl ⟨o3 k hk, h3.block k hk⟩) (fun k hk => .inl ⟨o4 k hk, h4.block k hk⟩) (fun k hk => .inl ⟨o5 k hk, h6.block k hk⟩)
  clear h1 h2 h3 h4 h5 h6 h hk o1 o2 o3 o4 o5 hi
  go_enter Tryz.func114, Tryz.ntmps114
  go_upto_region 1 with fail
  refine wp_world fun wB hwB => ?_
  have hBB : Below w.heap.size w wB := by rw [hwB]; exact (((Below.refl _ _).alloc (Nat.le_refl _) _).alloc (by simp) _).alloc (by simp; omega) _
  have hK0 : Blk wB w.heap.size 33 [.int .i64 R.room, .slice fa R.files.length fc, .slice da R.dir.length dc, .slice sa R.sure.length sc, .slice ca R.changes.length cc, .int .i64 R.steps, .int .i64 R.left, .slice pa R.plan.length pc] := by rw [hwB]; exact ((Blk.new w 33 [.int .i64 R.room, .slice fa R.files.length fc, .slice da R.dir.length dc, .slice sa R.sure.length sc, .slice ca R.changes.length cc, .int .i64 R.steps, .int .i64 R.left, .slice pa R.plan.length pc]).alloc _).alloc _
  have hKX : Blk wB (w.heap.size + 1) 135 [.string xs, .int .i64 xf] := by
    rw [hwB]
    have := (Blk.new (w.alloc (.cells #[.int .i64 R.room, .slice fa R.files.length fc, .slice da R.dir.length dc, .slice sa R.sure.length sc, .slice ca R.changes.length cc, .int .i64 R.steps, .int .i64 R.left, .slice pa R.plan.length pc] 33)) 135 [.string xs, .int .i64 xf]).alloc (.cells zeroC.toArray 33)
    rw [World.size_alloc] at this
    exact this
  have hK1 : Blk wB (w.heap.size + 2) 33 zeroC := by
    rw [hwB]
    have := Blk.new ((w.alloc (.cells #[.int .i64 R.room, .slice fa R.files.length fc, .slice da R.dir.length dc, .slice sa R.sure.length sc, .slice ca R.changes.length cc, .int .i64 R.steps, .int .i64 R.left, .slice pa R.plan.length pc] 33)).alloc (.cells #[.string xs, .int .i64 xf] 135)) 33 zeroC
    rw [World.size_alloc, World.size_alloc] at this
    exact this
  have c1 : ∀ A, (wB.alloc A).cell? ⟨w.heap.size, 1, none⟩ = some (.slice fa R.files.length fc) := fun A => (hK0.alloc A).cell rfl
  have HBB := Lib.hid hBB
  have HK0 := Lib.hid hK0
  have HKX := Lib.hid hKX
  have HK1 := Lib.hid hK1
  have HOE := Lib.hid (OwnRF.empty wB)
  clear hwB hBB hK0 hKX hK1
  go_wp2_with (with_reducible refine wpList_append_rf rfl (.tmp 7) (.tmp 9) rfl wB.heap.size (.slice (some ⟨wB.heap.size, 0, none⟩) 0 0) (.slice fa R.files.length fc) [] R.files ?_ HOE.out ?_ HF.out ?_ ?_ ?_ ?_)
  case refine_1 => rfl
  case refine_2 => rfl
  case refine_3 => exact (HBB.out).alloc HBB.out.size _
  case refine_4 => have := HFL.out; simp; omega
  case refine_5 => simp
  intro v3 w3 ho3 hg3
  try rw [List.nil_append] at ho3
  obtain ⟨a3, q3, rfl⟩ := ho3.slice
  have hb3 : Below wB.heap.size wB w3 := ((Below.refl _ _).alloc (Nat.le_refl _) _).grown hg3 (by simp) fun j hj => by cases hj; exact Nat.le_refl _
  have hk0 := (show Blk w3 w.heap.size 33 [.int .i64 R.room, .slice fa R.files.length fc, .slice da R.dir.length dc, .slice sa R.sure.length sc, .slice ca R.changes.length cc, .int .i64 R.steps, .int .i64 R.left, .slice pa R.plan.length pc] from (hb3.block _ HK0.out.lt).trans HK0.out)
  have hkx := (show Blk w3 (w.heap.size + 1) 135 [.string xs, .int .i64 xf] from (hb3.block _ HKX.out.lt).trans HKX.out)
  have hk1 := (show Blk w3 (w.heap.size + 2) 33 zeroC from (hb3.block _ HK1.out.lt).trans HK1.out)
  have HB3 := Lib.hid (HBB.out.trans (hb3.mono HBB.out.size))
  have HO3 := Lib.hid ho3
  have hbs : w.heap.size + 3 ≤ wB.heap.size := by have := HK1.out.lt; omega
  have HBS := Lib.hid hbs
  have f1 := hk0.frozen 1
  have d1 := hk0.cell (i := 1) rfl
  have HKA := Lib.hid (hk0.set 1 (.slice a3 R.files.length q3))
  have HKB := Lib.hid (hkx.set_other (a := ⟨w.heap.size, 1, none⟩) (by simp) (.slice a3 R.files.length q3))
  have HKC := Lib.hid (hk1.set_other (a := ⟨w.heap.size, 1, none⟩) (by simp) (.slice a3 R.files.length q3))
  clear hg3 hb3 hk0 hkx hk1 ho3 c1 hbs HK0 HKX HK1 HOE HBB
  go_upto_region 2 with fail
  refine wp_world fun w4 hw4 => ?_
  have hk0 : Blk w4 w.heap.size 33 [.int .i64 R.room, .slice a3 R.files.length q3, .slice da R.dir.length dc, .slice sa R.sure.length sc, .slice ca R.changes.length cc, .int .i64 R.steps, .int .i64 R.left, .slice pa R.plan.length pc] := by rw [hw4]; exact HKA.out
  have hkx : Blk w4 (w.heap.size + 1) 135 [.string xs, .int .i64 xf] := by rw [hw4]; exact HKB.out
  have hk1 : Blk w4 (w.heap.size + 2) 33 zeroC := by rw [hw4]; exact HKC.out
  have hB4 : Below w.heap.size w w4 := by rw [hw4]; exact HB3.out.setCell (Nat.le_refl _) _
  have hO4 : OwnRF wB.heap.size w4 (.slice a3 R.files.length q3) R.files := by
    rw [hw4]; refine ownsRow_to HO3.out fun k cur _ hk => heap_setCell_other w3 _ k _ (show k ≠ w.heap.size by have := HO3.out.own k hk; have := HBS.out; omega)
  clear hw4 HKA HKB HKC HB3 HO3 f1 d1
  have HB4 := Lib.hid hB4
  have HO4 := Lib.hid hO4
  have HK0 := Lib.hid hk0
  have HKX := Lib.hid hkx
  have HK1 := Lib.hid hk1
  have b1 := hk0.cell (i := 1) rfl
  have e0 := hkx.cell (i := 0) rfl
  have e1 := hkx.cell (i := 1) rfl
  cases a3 with
  | none =>
    rcases HO4.out.2 with ⟨h0, h1⟩ | ⟨_, _, _, h0, _⟩
    · have := HLT.out; omega
    · cases h0
  | some ga =>
    obtain ⟨gb, go, gs⟩ := ga
    obtain ⟨g1, g2, g3, g4, ⟨ca0, cb0, g5, g6⟩, g7⟩ := HO4.out.cell i HLT.out
    simp only at g1 g2 g3 g4 g5 g6 g7
    subst g1 g2
    have gf0 := g7 (i * 2)
    have gf1 := g7 (i * 2 + 1)
    have HS := Lib.hid (HO4.out.set i (xs, xf))
    have HG := Lib.hid g3
    clear hk0 hkx hk1 hB4 hO4 g3 g4 g7
    go_upto_region 3 with fail
    refine wp_world fun w5 hw5 => ?_
    have hO5 : OwnRF wB.heap.size w5 (.slice (some ⟨gb, 0, none⟩) R.files.length q3) (R.files.set i (xs, xf)) := by rw [hw5]; exact HS.out
    have hgw : gb ≠ w.heap.size ∧ gb ≠ w.heap.size + 2 := by have := HG.out; have := HBS.out; omega
    have hk0 : Blk w5 w.heap.size 33 [.int .i64 R.room, .slice (some ⟨gb, 0, none⟩) R.files.length q3, .slice da R.dir.length dc, .slice sa R.sure.length sc, .slice ca R.changes.length cc, .int .i64 R.steps, .int .i64 R.left, .slice pa R.plan.length pc] := by rw [hw5]; exact (HK0.out.set_other (a := ⟨gb, i * 2, none⟩) (show w.heap.size ≠ gb by omega) _).set_other (a := ⟨gb, i * 2 + 1, none⟩) (show w.heap.size ≠ gb by omega) _
    have hk1 : Blk w5 (w.heap.size + 2) 33 zeroC := by rw [hw5]; exact (HK1.out.set_other (a := ⟨gb, i * 2, none⟩) (show w.heap.size + 2 ≠ gb by omega) _).set_other (a := ⟨gb, i * 2 + 1, none⟩) (show w.heap.size + 2 ≠ gb by omega) _
    have hB5 : Below w.heap.size w w5 := by rw [hw5]; exact (HB4.out.setCell (p := ⟨gb, i * 2, none⟩) (show w.heap.size ≤ gb by have := HG.out; have := HBS.out; omega) _).setCell (p := ⟨gb, i * 2 + 1, none⟩) (show w.heap.size ≤ gb by have := HG.out; have := HBS.out; omega) _
    have HR5 := Lib.hid (HREST.out w5 (.slice (some ⟨gb, 0, none⟩) R.files.length q3) hB5 (by have h9 := hO5.names; first | exact h9 | (rwa [List.length_set] at h9)) (fun k hk => by cases hk; show w.heap.size ≤ gb; have := HG.out; have := HBS.out; omega))
    have HB5 := Lib.hid hB5
    have HGW := Lib.hid hgw
    clear hw5 HS HG HK0 HK1 HKX HB4 HO4 hO5 gf0 gf1 b1 e0 e1 g5 g6 hB5 hgw
    obtain ⟨x0, x1, x2, x3, x4, x5, x6, x7, y0, y1, y2, y3, y4, y5, y6, y7⟩ := hk0.fs
    obtain ⟨p0, p1, p2, p3, p4, p5, p6, p7, z0, z1, z2, z3, z4, z5, z6, z7⟩ := (show Blk _ (w.heap.size + 2) 33 [.int .i64 0, .slice none 0 0, .slice none 0 0, .slice none 0 0, .slice none 0 0, .int .i64 0, .int .i64 0, .slice none 0 0] from hk1).fs
    have HK1 := Lib.hid hk1
    clear hk0 hk1
    go_wp2_with fail
    have hkF := putFS_blk HK1.out (.int .i64 R.room) (.slice (some ⟨gb, 0, none⟩) R.files.length q3) (.slice da R.dir.length dc) (.slice sa R.sure.length sc) (.slice ca R.changes.length cc) (.int .i64 R.steps) (.int .i64 R.left) (.slice pa R.plan.length pc)
    obtain ⟨d0, d1, d2, d3, d4, d5, d6, d7, -⟩ := hkF.fs
    unfold putFS at d0 d1 d2 d3 d4 d5 d6 d7
    refine bodyPost_ret (v := .agg #[.int .i64 R.room, .slice (some ⟨gb, 0, none⟩) R.files.length q3, .slice da R.dir.length dc, .slice sa R.sure.length sc, .slice ca R.changes.length cc, .int .i64 R.steps, .int .i64 R.left, .slice pa R.plan.length pc]) (by simp [results, Tryz.results114, go_sem, d0, d1, d2, d3, d4, d5, d6, d7]) rfl ⟨_, rfl, ?_, ?_⟩
    · exact (HR5.out.to fun k hk => putFS_other (show k ≠ w.heap.size + 2 by rcases hk with hk | ⟨_, hk⟩; omega; cases hk; exact HGW.out.2) _ _ _ _ _ _ _ _).mono fun _ hk => hk.imp (fun h => h.1) (fun h => h.1)
    · exact putFS_below HB5.out (by omega) _ _ _ _ _ _ _ _
end Go.Proofs.YtigbgajelkknbaaGreatDoor
namespace Go.Proofs.YtigbgajelkknbaaGreatDoor
open Go.RowKit
set_option maxRecDepth 100000

/-- The file with this number. -/
def fileR (R : RSt) (i : Nat) : RN := R.files.getD i (⟨#[]⟩, 0)
theorem fileR_get {R : RSt} {i : Nat} (h : i < R.files.length) : R.files[i]? = some (fileR R i) := by
  unfold fileR; rw [List.getD_eq_getElem?_getD, List.getElem?_eq_getElem h]; rfl
/-- The parts of one that is laid out. -/
theorem RFs.at_ {P : Nat → Prop} {w : World} {a0 a1 a2 a3 a4 a5 a6 a7 : Value} {R : RSt} (h : RFs P w (.agg #[a0, a1, a2, a3, a4, a5, a6, a7]) R) :
    RNames w a1 R.files ∧ RNames w a2 R.dir ∧ RNames w a3 R.sure ∧ (∃ cvs, RRow w a4 cvs ∧ ChOk P w cvs R.changes) ∧ RPlan w a7 R.plan ∧ OwnIn P a1 ∧ OwnIn P a2 ∧ OwnIn P a3 ∧ OwnIn P a4 ∧ OwnPl P a7 := by
  obtain ⟨fv, dv, sv, cv, pv, cvs, hv, g1, g2, g3, g4, g5, g6, o1, o2, o3, o4, o5⟩ := h
  unfold fsV at hv
  injection hv with hv
  have hv := congrArg Array.toList hv
  simp only [List.cons.injEq, and_true] at hv
  obtain ⟨-, rfl, rfl, rfl, rfl, -, -, rfl⟩ := hv
  exact ⟨g1, g2, g3, ⟨cvs, g4, g5⟩, g6, o1, o2, o3, o4, o5⟩
theorem openR_ok {R : RSt} {s : ByteArray} (hw : RWell R) (h : (openR R s).2 = 0) : ∃ k : Nat, (openR R s).1 = k ∧ k < R.files.length := by
  unfold openR at h ⊢
  by_cases h1 : nameB s = false
  · rw [if_pos h1] at h; cases h
  · rw [if_neg h1] at h ⊢
    by_cases h2 : findR R.dir s < 0
    · rw [if_pos h2] at h; cases h
    · rw [if_neg h2] at h ⊢
      rcases findR_some (s := s) R.dir with ⟨x, hx, _, h3⟩ | ⟨_, h3⟩
      · have := hw.dir x hx
        refine ⟨x.2.toNat, ?_, by omega⟩
        show findR R.dir s = _
        rw [h3]; omega
      · omega
theorem stepR_same (R : RSt) : (stepR R).1.files = R.files ∧ (stepR R).1.dir = R.dir ∧ (stepR R).1.sure = R.sure ∧ (stepR R).1.changes = R.changes ∧ (stepR R).1.room = R.room := by
  unfold stepR; split <;> exact ⟨rfl, rfl, rfl, rfl, rfl⟩
/-- What 'Sync' makes of it, and the error. -/
def syncR (R : RSt) (s : ByteArray) : RSt × Int :=
  if (openR R s).2 = 0 then (if (stepR R).2.2 = 0 then (setR (stepR R).1 (openR R s).1.toNat ((fileR (stepR R).1 (openR R s).1.toNat).1, ((fileR (stepR R).1 (openR R s).1.toNat).1.size : Nat)), 0) else ((stepR R).1, (stepR R).2.2)) else (R, (openR R s).2)
set_option maxRecDepth 100000 in
set_option maxHeartbeats 2000000 in
theorem refSync_any {P : Nat → Prop} (v : Value) (R : RSt) (s : ByteArray) (w : World) (h : RFs P w v R) (hk : ROk R) (hks : R.steps < 4611686018427387903) (hw : RWell R) (hsz : s.size ≤ 9223372036854775807) :
    Calls Tryz.prog 54 #[v, .string s] w fun e w' => ∃ v', e = .returned (.tuple #[v', .int .i64 (syncR R s).2]) ∧ RFs (fun k => P k ∨ w.heap.size ≤ k) w' v' (syncR R s).1 ∧ Below w.heap.size w w' := by
  have HO := Lib.hid (show syncR R s = if (openR R s).2 = 0 then (if (stepR R).2.2 = 0 then (setR (stepR R).1 (openR R s).1.toNat ((fileR (stepR R).1 (openR R s).1.toNat).1, ((fileR (stepR R).1 (openR R s).1.toNat).1.size : Nat)), 0) else ((stepR R).1, (stepR R).2.2)) else (R, (openR R s).2) from rfl)
  have hP := h.lt
  have HS := Lib.hid (fun (w0 : World) (hb : Below w.heap.size w w0) => refStepR v R w0 (hP.below hb) hk)
  have HF := Lib.hid (fun (w0 : World) (hb : Below w.heap.size w w0) => refOpen_any v R s w0 (hP.below hb) hk hsz)
  have HP := Lib.hid hP
  have HKT := Lib.hid (hk.step hks)
  have HQ := Lib.hid (fun h => openR_ok (s := s) hw h)
  have HTF := Lib.hid (stepR_same R).1
  have HFS := Lib.hid (fun f hf => hw.size f hf)
  generalize syncR R s = Z at HO
  generalize openR R s = q at HO HF HQ
  generalize stepR R = T at HO HS HKT HTF
  obtain ⟨q1, q2⟩ := q
  obtain ⟨T1, T2, T3⟩ := T
  obtain ⟨fa, fc, da, dc, sa, sc, ca, cc, pa, pc, cvs, rfl, -⟩ := h.parts
  clear h hk hP hw
  simp only at HO HKT HTF HQ
  go_enter Tryz.func54, Tryz.ntmps54
  go_wp2_with fail
  refine calls_world fun w0 hw0 => ?_
  have hB0 : Below w.heap.size w w0 := by rw [hw0]; exact ((Below.refl _ _).alloc (Nat.le_refl _) _).alloc (by simp) _
  have hK0 : Blk w0 w.heap.size 33 [.int .i64 R.room, .slice fa R.files.length fc, .slice da R.dir.length dc, .slice sa R.sure.length sc, .slice ca R.changes.length cc, .int .i64 R.steps, .int .i64 R.left, .slice pa R.plan.length pc] := by rw [hw0]; exact (Blk.new w 33 [.int .i64 R.room, .slice fa R.files.length fc, .slice da R.dir.length dc, .slice sa R.sure.length sc, .slice ca R.changes.length cc, .int .i64 R.steps, .int .i64 R.left, .slice pa R.plan.length pc]).alloc _
  have hK1 : Blk w0 (w.heap.size + 1) 33 zeroC := by
    rw [hw0]
    have := Blk.new (w.alloc (.cells #[.int .i64 R.room, .slice fa R.files.length fc, .slice da R.dir.length dc, .slice sa R.sure.length sc, .slice ca R.changes.length cc, .int .i64 R.steps, .int .i64 R.left, .slice pa R.plan.length pc] 33)) 33 zeroC
    rw [World.size_alloc] at this
    exact this
  have HB0 := Lib.hid hB0
  have HK0 := Lib.hid hK0
  have HK1 := Lib.hid hK1
  clear hw0 hB0 hK0 hK1
  refine (HF.out w0 HB0.out).mono ?_; rintro e w1 ⟨rfl, hb1⟩
  have hk0 := (show Blk w1 w.heap.size 33 [.int .i64 R.room, .slice fa R.files.length fc, .slice da R.dir.length dc, .slice sa R.sure.length sc, .slice ca R.changes.length cc, .int .i64 R.steps, .int .i64 R.left, .slice pa R.plan.length pc] from (hb1.block _ HK0.out.lt).trans HK0.out)
  have hk1 := (show Blk w1 (w.heap.size + 1) 33 zeroC from (hb1.block _ HK1.out.lt).trans HK1.out)
  have hB := HB0.out.trans (hb1.mono HB0.out.size)
  clear HK0 HK1 HB0
  have HK0 := Lib.hid hk0
  have HK1 := Lib.hid hk1
  have HB0 := Lib.hid hB
  clear hk0 hk1 hB
  clear hb1
  by_cases h2 : q2 = 0
  · subst h2
    obtain ⟨k, rfl, hkl⟩ := HQ.out rfl
    rw [if_pos rfl, Int.toNat_natCast] at HO
    obtain ⟨x0, x1, x2, x3, x4, x5, x6, x7, y0, y1, y2, y3, y4, y5, y6, y7⟩ := HK0.out.fs
    obtain ⟨p0, p1, p2, p3, p4, p5, p6, p7, z0, z1, z2, z3, z4, z5, z6, z7⟩ := (show Blk _ (w.heap.size + 1) 33 [.int .i64 0, .slice none 0 0, .slice none 0 0, .slice none 0 0, .slice none 0 0, .int .i64 0, .int .i64 0, .slice none 0 0] from HK1.out).fs
    go_wp2_with fail
    clear x0 x1 x2 x3 x4 x5 x6 x7 y0 y1 y2 y3 y4 y5 y6 y7 p0 p1 p2 p3 p4 p5 p6 p7 z0 z1 z2 z3 z4 z5 z6 z7
    refine (HS.out w1 HB0.out).mono ?_; rintro e w2 ⟨v1, rfl, hR1, hb1⟩
    have hR1' := hR1.below hb1
    obtain ⟨fa1, fc1, da1, dc1, sa1, sc1, ca1, cc1, pa1, pc1, cvs1, rfl, -⟩ := hR1.parts
    obtain ⟨room1, files1, dir1, sure1, changes1, steps1, left1, plan1⟩ := T1
    simp only at HO hR1 hR1'
    have hk0 := (show Blk w2 w.heap.size 33 [.int .i64 R.room, .slice fa R.files.length fc, .slice da R.dir.length dc, .slice sa R.sure.length sc, .slice ca R.changes.length cc, .int .i64 R.steps, .int .i64 R.left, .slice pa R.plan.length pc] from (hb1.block _ HK0.out.lt).trans HK0.out)
    have hk1 := (show Blk w2 (w.heap.size + 1) 33 zeroC from (hb1.block _ HK1.out.lt).trans HK1.out)
    have hB := HB0.out.trans (hb1.mono HB0.out.size)
    clear HK0 HK1 HB0
    have HK0 := Lib.hid hk0
    have HK1 := Lib.hid hk1
    have HB0 := Lib.hid hB
    clear hk0 hk1 hB
    obtain ⟨x0, x1, x2, x3, x4, x5, x6, x7, y0, y1, y2, y3, y4, y5, y6, y7⟩ := HK0.out.fs
    obtain ⟨p0, p1, p2, p3, p4, p5, p6, p7, z0, z1, z2, z3, z4, z5, z6, z7⟩ := (show Blk _ (w.heap.size + 1) 33 [.int .i64 0, .slice none 0 0, .slice none 0 0, .slice none 0 0, .slice none 0 0, .int .i64 0, .int .i64 0, .slice none 0 0] from HK1.out).fs
    have HKA := Lib.hid (putFS_blk HK0.out (.int .i64 room1) (.slice fa1 files1.length fc1) (.slice da1 dir1.length dc1) (.slice sa1 sure1.length sc1) (.slice ca1 changes1.length cc1) (.int .i64 steps1) (.int .i64 left1) (.slice pa1 plan1.length pc1))
    have HR1 := Lib.hid hR1'
    clear hR1 hR1' hb1
    go_upto_region 5 with fail
    refine wp_world fun w3 hw2 => ?_
    have hk0 : Blk w3 w.heap.size 33 [.int .i64 room1, .slice fa1 files1.length fc1, .slice da1 dir1.length dc1, .slice sa1 sure1.length sc1, .slice ca1 changes1.length cc1, .int .i64 steps1, .int .i64 left1, .slice pa1 plan1.length pc1] := by rw [hw2]; exact HKA.out
    have hk1 : Blk w3 (w.heap.size + 1) 33 zeroC := by rw [hw2]; exact (putFS_other (w := w2) (show w.heap.size + 1 ≠ w.heap.size by omega) _ _ _ _ _ _ _ _).trans HK1.out
    have hB2 : Below w.heap.size w w3 := by rw [hw2]; exact putFS_below HB0.out (Nat.le_refl _) _ _ _ _ _ _ _ _
    have hR2 : RFs (fun k => P k ∧ k < w.heap.size) w3 (.agg #[.int .i64 room1, .slice fa1 files1.length fc1, .slice da1 dir1.length dc1, .slice sa1 sure1.length sc1, .slice ca1 changes1.length cc1, .int .i64 steps1, .int .i64 left1, .slice pa1 plan1.length pc1]) ⟨room1, files1, dir1, sure1, changes1, steps1, left1, plan1⟩ := by
      rw [hw2]; exact HR1.out.to fun k hk => putFS_other (w := w2) (Nat.ne_of_lt hk.2) _ _ _ _ _ _ _ _
    clear hw2 HKA HR1 HB0 HK0 HK1
    clear x0 x1 x2 x3 x4 x5 x6 x7 y0 y1 y2 y3 y4 y5 y6 y7 p0 p1 p2 p3 p4 p5 p6 p7 z0 z1 z2 z3 z4 z5 z6 z7
    have HB0 := Lib.hid hB2
    have HR2 := Lib.hid hR2
    have HK0 := Lib.hid hk0
    have HK1 := Lib.hid hk1
    clear hk0 hk1 hB2 hR2
    by_cases h3 : T3 = 0
    · subst h3
      rw [if_pos rfl] at HO
      have hkl1 : k < files1.length := by rw [show files1 = R.files from HTF.out]; exact hkl
      have HKL := Lib.hid hkl1
      have lk : (k : Int) < files1.length := by omega
      have hfg := fileR_get (R := ⟨room1, files1, dir1, sure1, changes1, steps1, left1, plan1⟩) hkl1
      have hfsz : (fileR ⟨room1, files1, dir1, sure1, changes1, steps1, left1, plan1⟩ k).1.size ≤ 1000000 := HFS.out _ (by rw [← show files1 = R.files from HTF.out]; exact List.mem_of_getElem? hfg)
      generalize fileR ⟨room1, files1, dir1, sure1, changes1, steps1, left1, plan1⟩ k = y at HO hfg hfsz
      obtain ⟨yd, ys⟩ := y
      simp only at HO hfsz
      have hRN := HR2.out.at_.1
      rcases hRN with ⟨_, h0⟩ | ⟨b, o, cap, hv, hb, hc⟩
      · have h1 := HKL.out; rw [show files1 = [] from h0] at h1; simp at h1
      obtain ⟨c1, c2⟩ := hc k _ hfg
      cases hv
      have HYD := Lib.hid hfsz
      clear hb hc hfg hkl hkl1
      obtain ⟨x0, x1, x2, x3, x4, x5, x6, x7, y0, y1, y2, y3, y4, y5, y6, y7⟩ := HK0.out.fs
      obtain ⟨p0, p1, p2, p3, p4, p5, p6, p7, z0, z1, z2, z3, z4, z5, z6, z7⟩ := (show Blk _ (w.heap.size + 1) 33 [.int .i64 0, .slice none 0 0, .slice none 0 0, .slice none 0 0, .slice none 0 0, .int .i64 0, .int .i64 0, .slice none 0 0] from HK1.out).fs
      go_upto_region 9 with fail
      refine wp_world fun w4 hw2 => ?_
      have hxF : Blk w4 w3.heap.size 135 [.string yd, .int .i64 (yd.size : Nat)] := by rw [hw2]; exact Blk.new w3 135 [.string yd, .int .i64 (yd.size : Nat)]
      have hbx : Below w3.heap.size w3 w4 := by rw [hw2]; exact (Below.refl _ _).alloc (Nat.le_refl _) _
      have HEF : Hid (w.heap.size + 2 ≤ w3.heap.size) := by show _ ≤ _; have := HK1.out.lt; omega
      clear hw2
      have HF := Lib.hid hxF
      clear hxF
      clear x0 x1 x2 x3 x4 x5 x6 x7 y0 y1 y2 y3 y4 y5 y6 y7 p0 p1 p2 p3 p4 p5 p6 p7 z0 z1 z2 z3 z4 z5 z6 z7
      clear c1 c2
      have hR4 := HR2.out.below (w' := w4) hbx
      have hk0 := (show Blk w4 w.heap.size 33 [.int .i64 room1, .slice (some ⟨b, o, none⟩) files1.length fc1, .slice da1 dir1.length dc1, .slice sa1 sure1.length sc1, .slice ca1 changes1.length cc1, .int .i64 steps1, .int .i64 left1, .slice pa1 plan1.length pc1] from (hbx.block _ HK0.out.lt).trans HK0.out)
      have hk1 := (show Blk w4 (w.heap.size + 1) 33 zeroC from (hbx.block _ HK1.out.lt).trans HK1.out)
      have hB := HB0.out.trans (hbx.mono HB0.out.size)
      clear HK0 HK1 HB0
      have HK0 := Lib.hid hk0
      have HK1 := Lib.hid hk1
      have HB0 := Lib.hid hB
      clear hk0 hk1 hB
      clear HR2 hbx
      have HR2 := Lib.hid hR4
      clear hR4
      have hST := refSet_any (P := fun k => P k ∧ k < w.heap.size) _ ⟨room1, files1, dir1, sure1, changes1, steps1, left1, plan1⟩ k (yd, ((yd.size : Nat) : Int)) w4 HR2.out HKT.out HKL.out
      have HST := Lib.hid hST
      have HW2 : Hid (w.heap.size + 2 ≤ w4.heap.size) := by show _ ≤ _; have := HK1.out.lt; omega
      clear hST
      obtain ⟨x0, x1, x2, x3, x4, x5, x6, x7, y0, y1, y2, y3, y4, y5, y6, y7⟩ := HK0.out.fs
      obtain ⟨p0, p1, p2, p3, p4, p5, p6, p7, z0, z1, z2, z3, z4, z5, z6, z7⟩ := (show Blk _ (w.heap.size + 1) 33 [.int .i64 0, .slice none 0 0, .slice none 0 0, .slice none 0 0, .slice none 0 0, .int .i64 0, .int .i64 0, .slice none 0 0] from HK1.out).fs
      have xF0 := HF.out.cell (i := 0) rfl
      have xF1 := HF.out.cell (i := 1) rfl
      have xfF0 := HF.out.frozen 0
      have xfF1 := HF.out.frozen 1
      go_wp2_with fail
      clear x0 x1 x2 x3 x4 x5 x6 x7 y0 y1 y2 y3 y4 y5 y6 y7 p0 p1 p2 p3 p4 p5 p6 p7 z0 z1 z2 z3 z4 z5 z6 z7
      clear xF0 xF1 xfF0 xfF1
      refine HST.out.mono ?_; rintro e w5 ⟨v5, rfl, hR5, hb5⟩
      have hk0 := (show Blk w5 w.heap.size 33 [.int .i64 room1, .slice (some ⟨b, o, none⟩) files1.length fc1, .slice da1 dir1.length dc1, .slice sa1 sure1.length sc1, .slice ca1 changes1.length cc1, .int .i64 steps1, .int .i64 left1, .slice pa1 plan1.length pc1] from (hb5.block _ HK0.out.lt).trans HK0.out)
      have hk1 := (show Blk w5 (w.heap.size + 1) 33 zeroC from (hb5.block _ HK1.out.lt).trans HK1.out)
      have hB := HB0.out.trans (hb5.mono HB0.out.size)
      clear HK0 HK1 HB0
      have HK0 := Lib.hid hk0
      have HK1 := Lib.hid hk1
      have HB0 := Lib.hid hB
      clear hk0 hk1 hB
      obtain ⟨fa5, fc5, da5, dc5, sa5, sc5, ca5, cc5, pa5, pc5, cvs5, rfl, -⟩ := hR5.parts
      have HR5 := Lib.hid (hR5.mono (Q := fun k => (P k ∧ k < w.heap.size) ∨ w.heap.size + 2 ≤ k) fun k hk => hk.elim .inl (fun h => .inr (by have := HW2.out; omega)))
      generalize setR ⟨room1, files1, dir1, sure1, changes1, steps1, left1, plan1⟩ k (yd, ((yd.size : Nat) : Int)) = T5 at *
      obtain ⟨room5, files5, dir5, sure5, changes5, steps5, left5, plan5⟩ := T5
      simp only at HR5 HO
      clear hR5 hb5 HST
      obtain ⟨x0, x1, x2, x3, x4, x5, x6, x7, y0, y1, y2, y3, y4, y5, y6, y7⟩ := HK0.out.fs
      obtain ⟨p0, p1, p2, p3, p4, p5, p6, p7, z0, z1, z2, z3, z4, z5, z6, z7⟩ := (show Blk _ (w.heap.size + 1) 33 [.int .i64 0, .slice none 0 0, .slice none 0 0, .slice none 0 0, .slice none 0 0, .int .i64 0, .int .i64 0, .slice none 0 0] from HK1.out).fs
      go_wp2_with fail
      have hkF := putFS_blk HK1.out (.int .i64 room5) (.slice fa5 files5.length fc5) (.slice da5 dir5.length dc5) (.slice sa5 sure5.length sc5) (.slice ca5 changes5.length cc5) (.int .i64 steps5) (.int .i64 left5) (.slice pa5 plan5.length pc5)
      obtain ⟨d0, d1, d2, d3, d4, d5, d6, d7, -⟩ := hkF.fs
      unfold putFS at d0 d1 d2 d3 d4 d5 d6 d7
      refine bodyPost_ret (v := .tuple #[.agg #[.int .i64 room5, .slice fa5 files5.length fc5, .slice da5 dir5.length dc5, .slice sa5 sure5.length sc5, .slice ca5 changes5.length cc5, .int .i64 steps5, .int .i64 left5, .slice pa5 plan5.length pc5], .int .i64 0]) (by simp [results, Tryz.results54, go_sem, d0, d1, d2, d3, d4, d5, d6, d7]) rfl ⟨_, by rw [HO.out], ?_, ?_⟩
      · rw [HO.out]; exact (HR5.out.to fun k hk => putFS_other (show k ≠ w.heap.size + 1 by rcases hk with hk | hk <;> omega) _ _ _ _ _ _ _ _).mono fun _ hk => hk.imp (fun h => h.1) (fun h => by omega)
      · exact putFS_below HB0.out (by omega) _ _ _ _ _ _ _ _
    · rw [if_neg h3] at HO
      obtain ⟨x0, x1, x2, x3, x4, x5, x6, x7, y0, y1, y2, y3, y4, y5, y6, y7⟩ := HK0.out.fs
      obtain ⟨p0, p1, p2, p3, p4, p5, p6, p7, z0, z1, z2, z3, z4, z5, z6, z7⟩ := (show Blk _ (w.heap.size + 1) 33 [.int .i64 0, .slice none 0 0, .slice none 0 0, .slice none 0 0, .slice none 0 0, .int .i64 0, .int .i64 0, .slice none 0 0] from HK1.out).fs
      go_wp2_with fail
      have hkF := putFS_blk HK1.out (.int .i64 room1) (.slice fa1 files1.length fc1) (.slice da1 dir1.length dc1) (.slice sa1 sure1.length sc1) (.slice ca1 changes1.length cc1) (.int .i64 steps1) (.int .i64 left1) (.slice pa1 plan1.length pc1)
      obtain ⟨d0, d1, d2, d3, d4, d5, d6, d7, -⟩ := hkF.fs
      unfold putFS at d0 d1 d2 d3 d4 d5 d6 d7
      refine bodyPost_ret (v := .tuple #[.agg #[.int .i64 room1, .slice fa1 files1.length fc1, .slice da1 dir1.length dc1, .slice sa1 sure1.length sc1, .slice ca1 changes1.length cc1, .int .i64 steps1, .int .i64 left1, .slice pa1 plan1.length pc1], .int .i64 T3]) (by simp [results, Tryz.results54, go_sem, d0, d1, d2, d3, d4, d5, d6, d7]) rfl ⟨_, by rw [HO.out], ?_, ?_⟩
      · rw [HO.out]; exact (HR2.out.to fun k hk => putFS_other (show k ≠ w.heap.size + 1 by have := hk.2; omega) _ _ _ _ _ _ _ _).mono fun _ hk => .inl hk.1
      · exact putFS_below HB0.out (by omega) _ _ _ _ _ _ _ _
  · rw [if_neg h2] at HO
    obtain ⟨x0, x1, x2, x3, x4, x5, x6, x7, y0, y1, y2, y3, y4, y5, y6, y7⟩ := HK0.out.fs
    obtain ⟨p0, p1, p2, p3, p4, p5, p6, p7, z0, z1, z2, z3, z4, z5, z6, z7⟩ := (show Blk _ (w.heap.size + 1) 33 [.int .i64 0, .slice none 0 0, .slice none 0 0, .slice none 0 0, .slice none 0 0, .int .i64 0, .int .i64 0, .slice none 0 0] from HK1.out).fs
    go_wp2_with fail
    have hkF := putFS_blk HK1.out (.int .i64 R.room) (.slice fa R.files.length fc) (.slice da R.dir.length dc) (.slice sa R.sure.length sc) (.slice ca R.changes.length cc) (.int .i64 R.steps) (.int .i64 R.left) (.slice pa R.plan.length pc)
    obtain ⟨d0, d1, d2, d3, d4, d5, d6, d7, -⟩ := hkF.fs
    unfold putFS at d0 d1 d2 d3 d4 d5 d6 d7
    refine bodyPost_ret (v := .tuple #[.agg #[.int .i64 R.room, .slice fa R.files.length fc, .slice da R.dir.length dc, .slice sa R.sure.length sc, .slice ca R.changes.length cc, .int .i64 R.steps, .int .i64 R.left, .slice pa R.plan.length pc], .int .i64 q2]) (by simp [results, Tryz.results54, go_sem, d0, d1, d2, d3, d4, d5, d6, d7]) rfl ⟨_, by rw [HO.out], ?_, ?_⟩
    · rw [HO.out]; exact ((HP.out.below HB0.out).to fun k hk => putFS_other (show k ≠ w.heap.size + 1 by have := hk.2; omega) _ _ _ _ _ _ _ _).mono fun _ hk => .inl hk.1
    · exact putFS_below HB0.out (by omega) _ _ _ _ _ _ _ _
end Go.Proofs.YtigbgajelkknbaaGreatDoor
