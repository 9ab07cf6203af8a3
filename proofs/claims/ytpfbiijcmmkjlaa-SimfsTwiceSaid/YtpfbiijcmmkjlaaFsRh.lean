/- The reference of layer 2 (rubricref02): 'Rename' by what it makes of a file system. -/
import Derived.Test.YtpfbiijcmmkjlaaFsRg
namespace Go.Proofs.Ytpfbiijcmmkjlaa
open Go.RowKit

/-- What 'Rename' makes of it, and the error. -/
def renameR (R : RSt) (a b : ByteArray) : RSt × Int :=
  if nameB a = true ∧ nameB b = true then (if findR R.dir a < 0 then (R, 3) else if (stepR R).2.2 = 0 then (turnS (stepR R).1 [(a, -1), (b, findR R.dir a)], 0) else ((stepR R).1, (stepR R).2.2)) else (R, 7)
set_option maxRecDepth 100000 in
set_option maxHeartbeats 2000000 in
theorem refRename_any {P : Nat → Prop} (v : Value) (R : RSt) (a b : ByteArray) (w : World) (h : RFs P w v R) (hk : ROk R) (hks : R.steps < 4611686018427387903) (hsa : a.size ≤ 9223372036854775807) (hsb : b.size ≤ 9223372036854775807) :
    Calls Try.prog 24 #[v, .string a, .string b] w fun e w' => ∃ v', e = .returned (.tuple #[v', .int .i64 (renameR R a b).2]) ∧ RFs (fun k => P k ∨ w.heap.size ≤ k) w' v' (renameR R a b).1 ∧ Below w.heap.size w w' := by
  have HO := Lib.hid (show renameR R a b = if nameB a = true ∧ nameB b = true then (if findR R.dir a < 0 then (R, 3) else if (stepR R).2.2 = 0 then (turnS (stepR R).1 [(a, -1), (b, findR R.dir a)], 0) else ((stepR R).1, (stepR R).2.2)) else (R, 7) from rfl)
  have hP := h.lt
  have HS := Lib.hid (fun (w0 : World) (hb : Below w.heap.size w w0) => refStepR v R w0 (hP.below hb) hk)
  have HP := Lib.hid hP
  have HKT := Lib.hid (hk.step hks)
  have HGA := Lib.hid (fun (w0 : World) => good_any a w0 (by omega))
  have HGB := Lib.hid (fun (w0 : World) => good_any b w0 (by omega))
  obtain ⟨fa, fc, da, dc, sa, sc, ca, cc, pa, pc, cvs, rfl, -, hD, -⟩ := h.parts
  have HF := Lib.hid (fun (w0 : World) (hb : Below w.heap.size w w0) => refFind_any _ R.dir a w0 (hD.below hb) (by have := hk.dir; omega))
  generalize renameR R a b = Z at HO
  generalize findR R.dir a = q at HO HF
  generalize stepR R = T at HO HS HKT
  generalize nameB a = ga at HO HGA
  generalize nameB b = gb at HO HGB
  obtain ⟨T1, T2, T3⟩ := T
  clear h hk hP hD
  simp only at HO HKT
  go_enter Try.func24, Try.ntmps24
  go_wp2_with fail
  refine calls_world fun w0 hw0 => ?_
  have hB0 : Below w.heap.size w w0 := by rw [hw0]; exact ((Below.refl _ _).alloc (Nat.le_refl _) _).alloc (by simp) _
  have hK0 : Blk w0 w.heap.size 33 [.int .i64 R.room, .slice fa R.files.length fc, .slice da R.dir.length dc, .slice sa R.sure.length sc, .slice ca R.changes.length cc, .int .i64 R.steps, .int .i64 R.left, .slice pa R.plan.length pc] := by rw [hw0]; exact (Blk.new w 33 [.int .i64 R.room, .slice fa R.files.length fc, .slice da R.dir.length dc, .slice sa R.sure.length sc, .slice ca R.changes.length cc, .int .i64 R.steps, .int .i64 R.left, .slice pa R.plan.length pc]).alloc _
  have hK1 : Blk w0 (w.heap.size + 1) 33 zeroC := by
    rw [hw0]
    have := Blk.new (w.alloc (.cells #[.int .i64 R.room, .slice fa R.files.length fc, .slice da R.dir.length dc, .slice sa R.sure.length sc, .slice ca R.changes.length cc, .int .i64 R.steps, .int .i64 R.left, .slice pa R.plan.length pc] 33)) 33 zeroC
    rw [World.size_alloc] at this
    exact this
  have HB0 := Lib.hid hB0
  have HK0 := Lib.hid hK0
  have HK1 := Lib.hid hK1
  clear hw0 hB0 hK0 hK1
  refine (HGA.out w0).mono ?_; rintro e w1 ⟨rfl, rfl⟩
  cases ga with
  | false =>
    rw [if_neg (by simp)] at HO
    obtain ⟨x0, x1, x2, x3, x4, x5, x6, x7, y0, y1, y2, y3, y4, y5, y6, y7⟩ := HK0.out.fs
    obtain ⟨p0, p1, p2, p3, p4, p5, p6, p7, z0, z1, z2, z3, z4, z5, z6, z7⟩ := (show Blk _ (w.heap.size + 1) 33 [.int .i64 0, .slice none 0 0, .slice none 0 0, .slice none 0 0, .slice none 0 0, .int .i64 0, .int .i64 0, .slice none 0 0] from HK1.out).fs
    go_wp2_with fail
    have hkF := putFS_blk HK1.out (.int .i64 R.room) (.slice fa R.files.length fc) (.slice da R.dir.length dc) (.slice sa R.sure.length sc) (.slice ca R.changes.length cc) (.int .i64 R.steps) (.int .i64 R.left) (.slice pa R.plan.length pc)
    obtain ⟨d0, d1, d2, d3, d4, d5, d6, d7, -⟩ := hkF.fs
    unfold putFS at d0 d1 d2 d3 d4 d5 d6 d7
    refine bodyPost_ret (v := .tuple #[.agg #[.int .i64 R.room, .slice fa R.files.length fc, .slice da R.dir.length dc, .slice sa R.sure.length sc, .slice ca R.changes.length cc, .int .i64 R.steps, .int .i64 R.left, .slice pa R.plan.length pc], .int .i64 7]) (by simp [results, Try.results24, go_sem, d0, d1, d2, d3, d4, d5, d6, d7]) rfl ⟨_, by rw [HO.out], ?_, ?_⟩
    · rw [HO.out]; exact ((HP.out.below HB0.out).to fun k hk => putFS_other (show k ≠ w.heap.size + 1 by have := hk.2; omega) _ _ _ _ _ _ _ _).mono fun _ hk => .inl hk.1
    · exact putFS_below HB0.out (by omega) _ _ _ _ _ _ _ _
  | true =>
    go_wp2_with fail
    refine (HGB.out w0).mono ?_; rintro e w1 ⟨rfl, rfl⟩
    cases gb with
    | false =>
      rw [if_neg (by simp)] at HO
      obtain ⟨x0, x1, x2, x3, x4, x5, x6, x7, y0, y1, y2, y3, y4, y5, y6, y7⟩ := HK0.out.fs
      obtain ⟨p0, p1, p2, p3, p4, p5, p6, p7, z0, z1, z2, z3, z4, z5, z6, z7⟩ := (show Blk _ (w.heap.size + 1) 33 [.int .i64 0, .slice none 0 0, .slice none 0 0, .slice none 0 0, .slice none 0 0, .int .i64 0, .int .i64 0, .slice none 0 0] from HK1.out).fs
      go_wp2_with fail
      have hkF := putFS_blk HK1.out (.int .i64 R.room) (.slice fa R.files.length fc) (.slice da R.dir.length dc) (.slice sa R.sure.length sc) (.slice ca R.changes.length cc) (.int .i64 R.steps) (.int .i64 R.left) (.slice pa R.plan.length pc)
      obtain ⟨d0, d1, d2, d3, d4, d5, d6, d7, -⟩ := hkF.fs
      unfold putFS at d0 d1 d2 d3 d4 d5 d6 d7
      refine bodyPost_ret (v := .tuple #[.agg #[.int .i64 R.room, .slice fa R.files.length fc, .slice da R.dir.length dc, .slice sa R.sure.length sc, .slice ca R.changes.length cc, .int .i64 R.steps, .int .i64 R.left, .slice pa R.plan.length pc], .int .i64 7]) (by simp [results, Try.results24, go_sem, d0, d1, d2, d3, d4, d5, d6, d7]) rfl ⟨_, by rw [HO.out], ?_, ?_⟩
      · rw [HO.out]; exact ((HP.out.below HB0.out).to fun k hk => putFS_other (show k ≠ w.heap.size + 1 by have := hk.2; omega) _ _ _ _ _ _ _ _).mono fun _ hk => .inl hk.1
      · exact putFS_below HB0.out (by omega) _ _ _ _ _ _ _ _
    | true =>
      rw [if_pos (by simp)] at HO
      obtain ⟨x0, x1, x2, x3, x4, x5, x6, x7, y0, y1, y2, y3, y4, y5, y6, y7⟩ := HK0.out.fs
      obtain ⟨p0, p1, p2, p3, p4, p5, p6, p7, z0, z1, z2, z3, z4, z5, z6, z7⟩ := (show Blk _ (w.heap.size + 1) 33 [.int .i64 0, .slice none 0 0, .slice none 0 0, .slice none 0 0, .slice none 0 0, .int .i64 0, .int .i64 0, .slice none 0 0] from HK1.out).fs
      go_wp2_with fail
      clear x0 x1 x2 x3 x4 x5 x6 x7 y0 y1 y2 y3 y4 y5 y6 y7 p0 p1 p2 p3 p4 p5 p6 p7 z0 z1 z2 z3 z4 z5 z6 z7
      refine (HF.out w0 HB0.out).mono ?_; rintro e w1 ⟨rfl, rfl⟩
      by_cases hq : q < 0
      · rw [if_pos hq] at HO
        obtain ⟨x0, x1, x2, x3, x4, x5, x6, x7, y0, y1, y2, y3, y4, y5, y6, y7⟩ := HK0.out.fs
        obtain ⟨p0, p1, p2, p3, p4, p5, p6, p7, z0, z1, z2, z3, z4, z5, z6, z7⟩ := (show Blk _ (w.heap.size + 1) 33 [.int .i64 0, .slice none 0 0, .slice none 0 0, .slice none 0 0, .slice none 0 0, .int .i64 0, .int .i64 0, .slice none 0 0] from HK1.out).fs
        go_wp2_with fail
        have hkF := putFS_blk HK1.out (.int .i64 R.room) (.slice fa R.files.length fc) (.slice da R.dir.length dc) (.slice sa R.sure.length sc) (.slice ca R.changes.length cc) (.int .i64 R.steps) (.int .i64 R.left) (.slice pa R.plan.length pc)
        obtain ⟨d0, d1, d2, d3, d4, d5, d6, d7, -⟩ := hkF.fs
        unfold putFS at d0 d1 d2 d3 d4 d5 d6 d7
        refine bodyPost_ret (v := .tuple #[.agg #[.int .i64 R.room, .slice fa R.files.length fc, .slice da R.dir.length dc, .slice sa R.sure.length sc, .slice ca R.changes.length cc, .int .i64 R.steps, .int .i64 R.left, .slice pa R.plan.length pc], .int .i64 3]) (by simp [results, Try.results24, go_sem, d0, d1, d2, d3, d4, d5, d6, d7]) rfl ⟨_, by rw [HO.out], ?_, ?_⟩
        · rw [HO.out]; exact ((HP.out.below HB0.out).to fun k hk => putFS_other (show k ≠ w.heap.size + 1 by have := hk.2; omega) _ _ _ _ _ _ _ _).mono fun _ hk => .inl hk.1
        · exact putFS_below HB0.out (by omega) _ _ _ _ _ _ _ _
      · rw [if_neg hq] at HO
        obtain ⟨x0, x1, x2, x3, x4, x5, x6, x7, y0, y1, y2, y3, y4, y5, y6, y7⟩ := HK0.out.fs
        obtain ⟨p0, p1, p2, p3, p4, p5, p6, p7, z0, z1, z2, z3, z4, z5, z6, z7⟩ := (show Blk _ (w.heap.size + 1) 33 [.int .i64 0, .slice none 0 0, .slice none 0 0, .slice none 0 0, .slice none 0 0, .int .i64 0, .int .i64 0, .slice none 0 0] from HK1.out).fs
        go_wp2_with fail
        clear x0 x1 x2 x3 x4 x5 x6 x7 y0 y1 y2 y3 y4 y5 y6 y7 p0 p1 p2 p3 p4 p5 p6 p7 z0 z1 z2 z3 z4 z5 z6 z7
        refine (HS.out w0 HB0.out).mono ?_; rintro e w2 ⟨v1, rfl, hR1, hb1⟩
        have hR1' := hR1.below hb1
        obtain ⟨fa1, fc1, da1, dc1, sa1, sc1, ca1, cc1, pa1, pc1, cvs1, rfl, -⟩ := hR1.parts
        obtain ⟨room1, files1, dir1, sure1, changes1, steps1, left1, plan1⟩ := T1
        simp only at HO hR1 hR1'
        have hk0 := (show Blk w2 w.heap.size 33 [.int .i64 R.room, .slice fa R.files.length fc, .slice da R.dir.length dc, .slice sa R.sure.length sc, .slice ca R.changes.length cc, .int .i64 R.steps, .int .i64 R.left, .slice pa R.plan.length pc] from (hb1.block _ HK0.out.lt).trans HK0.out)
        have hk1 := (show Blk w2 (w.heap.size + 1) 33 zeroC from (hb1.block _ HK1.out.lt).trans HK1.out)
        have hB := HB0.out.trans (hb1.mono HB0.out.size)
        clear HK0 HK1 HB0
        have HK0 := Lib.hid hk0
        have HK1 := Lib.hid hk1
        have HB0 := Lib.hid hB
        clear hk0 hk1 hB
        obtain ⟨x0, x1, x2, x3, x4, x5, x6, x7, y0, y1, y2, y3, y4, y5, y6, y7⟩ := HK0.out.fs
        obtain ⟨p0, p1, p2, p3, p4, p5, p6, p7, z0, z1, z2, z3, z4, z5, z6, z7⟩ := (show Blk _ (w.heap.size + 1) 33 [.int .i64 0, .slice none 0 0, .slice none 0 0, .slice none 0 0, .slice none 0 0, .int .i64 0, .int .i64 0, .slice none 0 0] from HK1.out).fs
        have HKA := Lib.hid (putFS_blk HK0.out (.int .i64 room1) (.slice fa1 files1.length fc1) (.slice da1 dir1.length dc1) (.slice sa1 sure1.length sc1) (.slice ca1 changes1.length cc1) (.int .i64 steps1) (.int .i64 left1) (.slice pa1 plan1.length pc1))
        have HR1 := Lib.hid hR1'
        clear hR1 hR1' hb1
        go_upto_region 7 with fail
        refine wp_world fun w3 hw2 => ?_
        have hk0 : Blk w3 w.heap.size 33 [.int .i64 room1, .slice fa1 files1.length fc1, .slice da1 dir1.length dc1, .slice sa1 sure1.length sc1, .slice ca1 changes1.length cc1, .int .i64 steps1, .int .i64 left1, .slice pa1 plan1.length pc1] := by rw [hw2]; exact HKA.out
        have hk1 : Blk w3 (w.heap.size + 1) 33 zeroC := by rw [hw2]; exact (putFS_other (w := w2) (show w.heap.size + 1 ≠ w.heap.size by omega) _ _ _ _ _ _ _ _).trans HK1.out
        have hB2 : Below w.heap.size w w3 := by rw [hw2]; exact putFS_below HB0.out (Nat.le_refl _) _ _ _ _ _ _ _ _
        have hR2 : RFs (fun k => P k ∧ k < w.heap.size) w3 (.agg #[.int .i64 room1, .slice fa1 files1.length fc1, .slice da1 dir1.length dc1, .slice sa1 sure1.length sc1, .slice ca1 changes1.length cc1, .int .i64 steps1, .int .i64 left1, .slice pa1 plan1.length pc1]) ⟨room1, files1, dir1, sure1, changes1, steps1, left1, plan1⟩ := by
          rw [hw2]; exact HR1.out.to fun k hk => putFS_other (w := w2) (Nat.ne_of_lt hk.2) _ _ _ _ _ _ _ _
        clear hw2 HKA HR1 HB0 HK0 HK1
        clear x0 x1 x2 x3 x4 x5 x6 x7 y0 y1 y2 y3 y4 y5 y6 y7 p0 p1 p2 p3 p4 p5 p6 p7 z0 z1 z2 z3 z4 z5 z6 z7
        have HB0 := Lib.hid hB2
        have HR2 := Lib.hid hR2
        have HK0 := Lib.hid hk0
        have HK1 := Lib.hid hk1
        clear hk0 hk1 hB2 hR2
        by_cases h3 : T3 = 0
        · subst h3
          rw [if_pos rfl] at HO
          have hw2 : w.heap.size + 2 ≤ w3.heap.size := by have := HK1.out.lt; omega
          have hlB : Below w3.heap.size w3 (w3.alloc (.cells #[.string a, .int .i64 (-1), .string b, .int .i64 q] 73)) := (Below.refl _ _).alloc (Nat.le_refl _) _
          have hlN : RNames (w3.alloc (.cells #[.string a, .int .i64 (-1), .string b, .int .i64 q] 73)) (.slice (some ⟨w3.heap.size, 0, none⟩) 2 2) [(a, (-1)), (b, q)] :=
            .inr ⟨w3.heap.size, 0, 2, rfl, by simp, fun j n hj => by
              match j with
              | 0 => cases hj; exact ⟨(Blk.new w3 73 [.string a, .int .i64 (-1), .string b, .int .i64 q]).cell rfl, (Blk.new w3 73 [.string a, .int .i64 (-1), .string b, .int .i64 q]).cell rfl⟩
              | 1 => cases hj; exact ⟨(Blk.new w3 73 [.string a, .int .i64 (-1), .string b, .int .i64 q]).cell rfl, (Blk.new w3 73 [.string a, .int .i64 (-1), .string b, .int .i64 q]).cell rfl⟩
              | j + 2 => cases hj⟩
          have hTR := refTurnR (P := fun k => (P k ∧ k < w.heap.size) ∨ w.heap.size + 2 ≤ k) _ _ ⟨room1, files1, dir1, sure1, changes1, steps1, left1, plan1⟩ [(a, (-1)), (b, q)] (w3.alloc (.cells #[.string a, .int .i64 (-1), .string b, .int .i64 q] 73)) ((HR2.out.below hlB).mono fun _ hk => .inl hk) HKT.out hlN (by simp) (fun k hk => by cases hk; exact .inr hw2)
          have HTR := Lib.hid hTR
          have HLB := Lib.hid hlB
          have HW2 := Lib.hid hw2
          clear hTR hlB hlN hw2
          obtain ⟨x0, x1, x2, x3, x4, x5, x6, x7, y0, y1, y2, y3, y4, y5, y6, y7⟩ := HK0.out.fs
          obtain ⟨p0, p1, p2, p3, p4, p5, p6, p7, z0, z1, z2, z3, z4, z5, z6, z7⟩ := (show Blk _ (w.heap.size + 1) 33 [.int .i64 0, .slice none 0 0, .slice none 0 0, .slice none 0 0, .slice none 0 0, .int .i64 0, .int .i64 0, .slice none 0 0] from HK1.out).fs
          go_wp2_with fail
          clear x0 x1 x2 x3 x4 x5 x6 x7 y0 y1 y2 y3 y4 y5 y6 y7 p0 p1 p2 p3 p4 p5 p6 p7 z0 z1 z2 z3 z4 z5 z6 z7
          refine HTR.out.mono ?_; rintro e w5 ⟨v5, rfl, hR5, hb5⟩
          have hb5' := HLB.out.trans (hb5.mono HLB.out.size)
          have hk0 := (show Blk w5 w.heap.size 33 [.int .i64 room1, .slice fa1 files1.length fc1, .slice da1 dir1.length dc1, .slice sa1 sure1.length sc1, .slice ca1 changes1.length cc1, .int .i64 steps1, .int .i64 left1, .slice pa1 plan1.length pc1] from (hb5'.block _ HK0.out.lt).trans HK0.out)
          have hk1 := (show Blk w5 (w.heap.size + 1) 33 zeroC from (hb5'.block _ HK1.out.lt).trans HK1.out)
          have hB := HB0.out.trans (hb5'.mono HB0.out.size)
          clear HK0 HK1 HB0
          have HK0 := Lib.hid hk0
          have HK1 := Lib.hid hk1
          have HB0 := Lib.hid hB
          clear hk0 hk1 hB
          obtain ⟨fa5, fc5, da5, dc5, sa5, sc5, ca5, cc5, pa5, pc5, cvs5, rfl, -⟩ := hR5.parts
          have HR5 := Lib.hid (hR5.mono (Q := fun k => (P k ∧ k < w.heap.size) ∨ w.heap.size + 2 ≤ k) fun k hk => hk.elim id (fun h => .inr (by have := HW2.out; have := HLB.out.size; omega)))
          generalize turnS ⟨room1, files1, dir1, sure1, changes1, steps1, left1, plan1⟩ [(a, (-1)), (b, q)] = T5 at *
          obtain ⟨room5, files5, dir5, sure5, changes5, steps5, left5, plan5⟩ := T5
          simp only at HR5 HO
          clear hR5 hb5 hb5' HTR
          obtain ⟨x0, x1, x2, x3, x4, x5, x6, x7, y0, y1, y2, y3, y4, y5, y6, y7⟩ := HK0.out.fs
          obtain ⟨p0, p1, p2, p3, p4, p5, p6, p7, z0, z1, z2, z3, z4, z5, z6, z7⟩ := (show Blk _ (w.heap.size + 1) 33 [.int .i64 0, .slice none 0 0, .slice none 0 0, .slice none 0 0, .slice none 0 0, .int .i64 0, .int .i64 0, .slice none 0 0] from HK1.out).fs
          go_wp2_with fail
          have hkF := putFS_blk HK1.out (.int .i64 room5) (.slice fa5 files5.length fc5) (.slice da5 dir5.length dc5) (.slice sa5 sure5.length sc5) (.slice ca5 changes5.length cc5) (.int .i64 steps5) (.int .i64 left5) (.slice pa5 plan5.length pc5)
          obtain ⟨d0, d1, d2, d3, d4, d5, d6, d7, -⟩ := hkF.fs
          unfold putFS at d0 d1 d2 d3 d4 d5 d6 d7
          refine bodyPost_ret (v := .tuple #[.agg #[.int .i64 room5, .slice fa5 files5.length fc5, .slice da5 dir5.length dc5, .slice sa5 sure5.length sc5, .slice ca5 changes5.length cc5, .int .i64 steps5, .int .i64 left5, .slice pa5 plan5.length pc5], .int .i64 0]) (by simp [results, Try.results24, go_sem, d0, d1, d2, d3, d4, d5, d6, d7]) rfl ⟨_, by rw [HO.out], ?_, ?_⟩
          · rw [HO.out]; exact (HR5.out.to fun k hk => putFS_other (show k ≠ w.heap.size + 1 by rcases hk with hk | hk <;> omega) _ _ _ _ _ _ _ _).mono fun _ hk => hk.imp (fun h => h.1) (fun h => by omega)
          · exact putFS_below HB0.out (by omega) _ _ _ _ _ _ _ _
        · rw [if_neg h3] at HO
          obtain ⟨x0, x1, x2, x3, x4, x5, x6, x7, y0, y1, y2, y3, y4, y5, y6, y7⟩ := HK0.out.fs
          obtain ⟨p0, p1, p2, p3, p4, p5, p6, p7, z0, z1, z2, z3, z4, z5, z6, z7⟩ := (show Blk _ (w.heap.size + 1) 33 [.int .i64 0, .slice none 0 0, .slice none 0 0, .slice none 0 0, .slice none 0 0, .int .i64 0, .int .i64 0, .slice none 0 0] from HK1.out).fs
          go_wp2_with fail
          have hkF := putFS_blk HK1.out (.int .i64 room1) (.slice fa1 files1.length fc1) (.slice da1 dir1.length dc1) (.slice sa1 sure1.length sc1) (.slice ca1 changes1.length cc1) (.int .i64 steps1) (.int .i64 left1) (.slice pa1 plan1.length pc1)
          obtain ⟨d0, d1, d2, d3, d4, d5, d6, d7, -⟩ := hkF.fs
          unfold putFS at d0 d1 d2 d3 d4 d5 d6 d7
          refine bodyPost_ret (v := .tuple #[.agg #[.int .i64 room1, .slice fa1 files1.length fc1, .slice da1 dir1.length dc1, .slice sa1 sure1.length sc1, .slice ca1 changes1.length cc1, .int .i64 steps1, .int .i64 left1, .slice pa1 plan1.length pc1], .int .i64 T3]) (by simp [results, Try.results24, go_sem, d0, d1, d2, d3, d4, d5, d6, d7]) rfl ⟨_, by rw [HO.out], ?_, ?_⟩
          · rw [HO.out]; exact (HR2.out.to fun k hk => putFS_other (show k ≠ w.heap.size + 1 by have := hk.2; omega) _ _ _ _ _ _ _ _).mono fun _ hk => .inl hk.1
          · exact putFS_below HB0.out (by omega) _ _ _ _ _ _ _ _
end Go.Proofs.Ytpfbiijcmmkjlaa
