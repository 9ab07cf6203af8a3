/- The reference of layer 2 (rubricref02): 'Create' by what it makes of a file system. The reference of layer 2 (rubricref02): 'Append' by what it makes of a file system. The reference of layer 2 (rubricref02): what 'Crash' leaves; a region whose head loads and lays one block, in whatever order. The reference of layer 2 (rubricref02): 'Crash'. -/
import Derived.Test.YtigbgajelkknbaaGreatDoorFsRk
import Derived.Deep.RegionHeldLaw
import Derived.OrdersHeld
import Derived.Deep.RegionHeld
import Derived.Deep.DeepCutAuto
import Derived.Deep.CutBlock
namespace Go.Proofs.YtigbgajelkknbaaGreatDoor
open Go.RowKit
set_option maxRecDepth 100000

/-- Other files. -/
theorem RFs.withFiles {P Q : Nat → Prop} {w w' : World} {a0 a1 a2 a3 a4 a5 a6 a7 fv : Value} {R : RSt} {fs : List RN} (h : RFs P w (.agg #[a0, a1, a2, a3, a4, a5, a6, a7]) R) (hs : ∀ k, P k → w'.heap[k]? = w.heap[k]?) (hf : RNames w' fv fs) (ho : OwnIn Q fv) (hq : ∀ k, P k → Q k) :
    RFs Q w' (.agg #[a0, fv, a2, a3, a4, a5, a6, a7]) { R with files := fs } := by
  obtain ⟨f1, dv, sv, cv, pv, cvs, hv, g1, g2, g3, g4, g5, g6, o1, o2, o3, o4, o5⟩ := h
  unfold fsV at hv
  injection hv with hv
  have hv := congrArg Array.toList hv
  simp only [List.cons.injEq, and_true] at hv
  obtain ⟨rfl, rfl, rfl, rfl, rfl, rfl, rfl, rfl⟩ := hv
  exact RFs.mk (R := { R with files := fs }) hf (g2.to fun k hk => hs k (o2 k hk)) (g3.to fun k hk => hs k (o3 k hk)) (g4.to fun k hk => hs k (o4 k hk))
    ⟨g5.1, fun j c hc => by obtain ⟨u, e1, e2, e3⟩ := g5.2 j c hc; exact ⟨u, e1, e2.to fun k hk => hs k (e3 k hk), e3.mono hq⟩⟩ (g6.to fun k hk => hs k (o5 k hk)) ho (o2.mono hq) (o3.mono hq) (o4.mono hq) (o5.mono hq)
/-- What 'Create' makes of it, and the error. -/
def createR (R : RSt) (s : ByteArray) : RSt × Int :=
  if nameB s = true then (if 0 ≤ findR R.dir s then (R, 4) else if 64 ≤ R.dir.length then (R, 8) else if (stepR R).2.2 = 0 then (turnS { (stepR R).1 with files := (stepR R).1.files ++ [(⟨#[]⟩, 0)] } [(s, ((stepR R).1.files.length : Nat))], 0) else ((stepR R).1, (stepR R).2.2)) else (R, 7)
set_option maxRecDepth 100000 in
set_option maxHeartbeats 2000000 in
theorem refCreate_any {P : Nat → Prop} (v : Value) (R : RSt) (s : ByteArray) (w : World) (h : RFs P w v R) (hk : ROk R) (hks : R.steps < 4611686018427387903) (hkf : R.files.length < 4000) (hsz : s.size ≤ 9223372036854775807) :
    Calls Tryz.prog 51 #[v, .string s] w fun e w' => ∃ v', e = .returned (.tuple #[v', .int .i64 (createR R s).2]) ∧ RFs (fun k => P k ∨ w.heap.size ≤ k) w' v' (createR R s).1 ∧ Below w.heap.size w w' := by
  have HO := Lib.hid (show createR R s = if nameB s = true then (if 0 ≤ findR R.dir s then (R, 4) else if 64 ≤ R.dir.length then (R, 8) else if (stepR R).2.2 = 0 then (turnS { (stepR R).1 with files := (stepR R).1.files ++ [(⟨#[]⟩, 0)] } [(s, ((stepR R).1.files.length : Nat))], 0) else ((stepR R).1, (stepR R).2.2)) else (R, 7) from rfl)
  have hP := h.lt
  have HS := Lib.hid (fun (w0 : World) (hb : Below w.heap.size w w0) => refStepR v R w0 (hP.below hb) hk)
  have HP := Lib.hid hP
  have HKT := Lib.hid (hk.step hks)
  have HG := Lib.hid (fun (w0 : World) => good_any s w0 (by omega))
  obtain ⟨fa, fc, da, dc, sa, sc, ca, cc, pa, pc, cvs, rfl, -, hD, -⟩ := h.parts
  have HF := Lib.hid (fun (w0 : World) (hb : Below w.heap.size w w0) => refFind_any _ R.dir s w0 (hD.below hb) (by have := hk.dir; omega))
  have HTF : Hid ((stepR R).1.files.length < 4000) := by show _ < _; rw [(stepR_same R).1]; exact hkf
  generalize createR R s = Z at HO
  generalize findR R.dir s = q at HO HF
  generalize stepR R = T at HO HS HKT HTF
  generalize nameB s = gs at HO HG
  obtain ⟨T1, T2, T3⟩ := T
  clear h hk hP hD
  simp only at HO HKT HTF
  go_enter Tryz.func51, Tryz.ntmps51
  go_wp2_with fail
  refine calls_world fun w0 hw0 => ?_
  have hB0 : Below w.heap.size w w0 := by rw [hw0]; exact ((Below.refl _ _).alloc (Nat.le_refl _) _).alloc (by simp) _
  have hK0 : Blk w0 w.heap.size 33 [.int .i64 R.room, .slice fa R.files.length fc, .slice da R.dir.length dc, .slice sa R.sure.length sc, .slice ca R.changes.length cc, .int .i64 R.steps, .int .i64 R.left, .slice pa R.plan.length pc] := by rw [hw0]; exact (Blk.new w 33 [.int .i64 R.room, .slice fa R.files.length fc, .slice da R.dir.length dc, .slice sa R.sure.length sc, .slice ca R.changes.length cc, .int .i64 R.steps, .int .i64 R.left, .slice pa R.plan.length pc]).alloc _
  have hK1 : Blk w0 (w.heap.size + 1) 33 zeroC := by
    rw [hw0]
    have := Blk.new (w.alloc (.cells #[.int .i64 R.room, .slice fa R.files.length fc, .slice da R.dir.length dc, .slice sa R.sure.length sc, .slice ca R.changes.length cc, .int .i64 R.steps, .int .i64 R.left, .slice pa R.plan.length pc] 33)) 33 zeroC
    rw [World.size_alloc] at this
    exact this
  have HB0 := Lib.hid hB0
  have HK0 := Lib.hid hK0
  have HK1 := Lib.hid hK1
  clear hw0 hB0 hK0 hK1
  refine (HG.out w0).mono ?_; rintro e w1 ⟨rfl, rfl⟩
  cases gs with
  | false =>
    rw [if_neg (by simp)] at HO
    obtain ⟨x0, x1, x2, x3, x4, x5, x6, x7, y0, y1, y2, y3, y4, y5, y6, y7⟩ := HK0.out.fs
    obtain ⟨p0, p1, p2, p3, p4, p5, p6, p7, z0, z1, z2, z3, z4, z5, z6, z7⟩ := (show Blk _ (w.heap.size + 1) 33 [.int .i64 0, .slice none 0 0, .slice none 0 0, .slice none 0 0, .slice none 0 0, .int .i64 0, .int .i64 0, .slice none 0 0] from HK1.out).fs
    go_wp2_with fail
    have hkF := putFS_blk HK1.out (.int .i64 R.room) (.slice fa R.files.length fc) (.slice da R.dir.length dc) (.slice sa R.sure.length sc) (.slice ca R.changes.length cc) (.int .i64 R.steps) (.int .i64 R.left) (.slice pa R.plan.length pc)
    obtain ⟨d0, d1, d2, d3, d4, d5, d6, d7, -⟩ := hkF.fs
    unfold putFS at d0 d1 d2 d3 d4 d5 d6 d7
    refine bodyPost_ret (v := .tuple #[.agg #[.int .i64 R.room, .slice fa R.files.length fc, .slice da R.dir.length dc, .slice sa R.sure.length sc, .slice ca R.changes.length cc, .int .i64 R.steps, .int .i64 R.left, .slice pa R.plan.length pc], .int .i64 7]) (by simp [results, Tryz.results51, go_sem, d0, d1, d2, d3, d4, d5, d6, d7]) rfl ⟨_, by rw [HO.out], ?_, ?_⟩
    · rw [HO.out]; exact ((HP.out.below HB0.out).to fun k hk => putFS_other (show k ≠ w.heap.size + 1 by have := hk.2; omega) _ _ _ _ _ _ _ _).mono fun _ hk => .inl hk.1
    · exact putFS_below HB0.out (by omega) _ _ _ _ _ _ _ _
  | true =>
    rw [if_pos rfl] at HO
    obtain ⟨x0, x1, x2, x3, x4, x5, x6, x7, y0, y1, y2, y3, y4, y5, y6, y7⟩ := HK0.out.fs
    obtain ⟨p0, p1, p2, p3, p4, p5, p6, p7, z0, z1, z2, z3, z4, z5, z6, z7⟩ := (show Blk _ (w.heap.size + 1) 33 [.int .i64 0, .slice none 0 0, .slice none 0 0, .slice none 0 0, .slice none 0 0, .int .i64 0, .int .i64 0, .slice none 0 0] from HK1.out).fs
    go_wp2_with fail
    clear x0 x1 x2 x3 x4 x5 x6 x7 y0 y1 y2 y3 y4 y5 y6 y7 p0 p1 p2 p3 p4 p5 p6 p7 z0 z1 z2 z3 z4 z5 z6 z7
    refine (HF.out w0 HB0.out).mono ?_; rintro e w1 ⟨rfl, rfl⟩
    by_cases hq : 0 ≤ q
    · rw [if_pos hq] at HO
      obtain ⟨x0, x1, x2, x3, x4, x5, x6, x7, y0, y1, y2, y3, y4, y5, y6, y7⟩ := HK0.out.fs
      obtain ⟨p0, p1, p2, p3, p4, p5, p6, p7, z0, z1, z2, z3, z4, z5, z6, z7⟩ := (show Blk _ (w.heap.size + 1) 33 [.int .i64 0, .slice none 0 0, .slice none 0 0, .slice none 0 0, .slice none 0 0, .int .i64 0, .int .i64 0, .slice none 0 0] from HK1.out).fs
      go_wp2_with fail
      have hkF := putFS_blk HK1.out (.int .i64 R.room) (.slice fa R.files.length fc) (.slice da R.dir.length dc) (.slice sa R.sure.length sc) (.slice ca R.changes.length cc) (.int .i64 R.steps) (.int .i64 R.left) (.slice pa R.plan.length pc)
      obtain ⟨d0, d1, d2, d3, d4, d5, d6, d7, -⟩ := hkF.fs
      unfold putFS at d0 d1 d2 d3 d4 d5 d6 d7
      refine bodyPost_ret (v := .tuple #[.agg #[.int .i64 R.room, .slice fa R.files.length fc, .slice da R.dir.length dc, .slice sa R.sure.length sc, .slice ca R.changes.length cc, .int .i64 R.steps, .int .i64 R.left, .slice pa R.plan.length pc], .int .i64 4]) (by simp [results, Tryz.results51, go_sem, d0, d1, d2, d3, d4, d5, d6, d7]) rfl ⟨_, by rw [HO.out], ?_, ?_⟩
      · rw [HO.out]; exact ((HP.out.below HB0.out).to fun k hk => putFS_other (show k ≠ w.heap.size + 1 by have := hk.2; omega) _ _ _ _ _ _ _ _).mono fun _ hk => .inl hk.1
      · exact putFS_below HB0.out (by omega) _ _ _ _ _ _ _ _
    · rw [if_neg hq] at HO
      by_cases h64 : 64 ≤ R.dir.length
      · have h64' : (64 : Int) ≤ R.dir.length := by omega
        rw [if_pos h64] at HO
        obtain ⟨x0, x1, x2, x3, x4, x5, x6, x7, y0, y1, y2, y3, y4, y5, y6, y7⟩ := HK0.out.fs
        obtain ⟨p0, p1, p2, p3, p4, p5, p6, p7, z0, z1, z2, z3, z4, z5, z6, z7⟩ := (show Blk _ (w.heap.size + 1) 33 [.int .i64 0, .slice none 0 0, .slice none 0 0, .slice none 0 0, .slice none 0 0, .int .i64 0, .int .i64 0, .slice none 0 0] from HK1.out).fs
        go_wp2_with fail
        have hkF := putFS_blk HK1.out (.int .i64 R.room) (.slice fa R.files.length fc) (.slice da R.dir.length dc) (.slice sa R.sure.length sc) (.slice ca R.changes.length cc) (.int .i64 R.steps) (.int .i64 R.left) (.slice pa R.plan.length pc)
        obtain ⟨d0, d1, d2, d3, d4, d5, d6, d7, -⟩ := hkF.fs
        unfold putFS at d0 d1 d2 d3 d4 d5 d6 d7
        refine bodyPost_ret (v := .tuple #[.agg #[.int .i64 R.room, .slice fa R.files.length fc, .slice da R.dir.length dc, .slice sa R.sure.length sc, .slice ca R.changes.length cc, .int .i64 R.steps, .int .i64 R.left, .slice pa R.plan.length pc], .int .i64 8]) (by simp [results, Tryz.results51, go_sem, d0, d1, d2, d3, d4, d5, d6, d7]) rfl ⟨_, by rw [HO.out], ?_, ?_⟩
        · rw [HO.out]; exact ((HP.out.below HB0.out).to fun k hk => putFS_other (show k ≠ w.heap.size + 1 by have := hk.2; omega) _ _ _ _ _ _ _ _).mono fun _ hk => .inl hk.1
        · exact putFS_below HB0.out (by omega) _ _ _ _ _ _ _ _
      · have h64' : ¬ (64 : Int) ≤ R.dir.length := by omega
        rw [if_neg h64] at HO
        obtain ⟨x0, x1, x2, x3, x4, x5, x6, x7, y0, y1, y2, y3, y4, y5, y6, y7⟩ := HK0.out.fs
        obtain ⟨p0, p1, p2, p3, p4, p5, p6, p7, z0, z1, z2, z3, z4, z5, z6, z7⟩ := (show Blk _ (w.heap.size + 1) 33 [.int .i64 0, .slice none 0 0, .slice none 0 0, .slice none 0 0, .slice none 0 0, .int .i64 0, .int .i64 0, .slice none 0 0] from HK1.out).fs
        go_wp2_with fail
        clear x0 x1 x2 x3 x4 x5 x6 x7 y0 y1 y2 y3 y4 y5 y6 y7 p0 p1 p2 p3 p4 p5 p6 p7 z0 z1 z2 z3 z4 z5 z6 z7
        refine (HS.out w0 HB0.out).mono ?_; rintro e w2 ⟨v1, rfl, hR1, hb1⟩
        have hR1' := hR1.below hb1
        obtain ⟨fa1, fc1, da1, dc1, sa1, sc1, ca1, cc1, pa1, pc1, cvs1, rfl, -⟩ := hR1.parts
        obtain ⟨room1, files1, dir1, sure1, changes1, steps1, left1, plan1⟩ := T1
        simp only at HO hR1 hR1'
        have hk0 := (show Blk w2 w.heap.size 33 [.int .i64 R.room, .slice fa R.files.length fc, .slice da R.dir.length dc, .slice sa R.sure.length sc, .slice ca R.changes.length cc, .int .i64 R.steps, .int .i64 R.left, .slice pa R.plan.length pc] from (hb1.block _ HK0.out.lt).trans HK0.out)
        have hk1 := (show Blk w2 (w.heap.size + 1) 33 zeroC from (hb1.block _ HK1.out.lt).trans HK1.out)
        have hB := HB0.out.trans (hb1.mono HB0.out.size)
        clear HK0 HK1 HB0
        have HK0 := Lib.hid hk0
        have HK1 := Lib.hid hk1
        have HB0 := Lib.hid hB
        clear hk0 hk1 hB
        obtain ⟨x0, x1, x2, x3, x4, x5, x6, x7, y0, y1, y2, y3, y4, y5, y6, y7⟩ := HK0.out.fs
        obtain ⟨p0, p1, p2, p3, p4, p5, p6, p7, z0, z1, z2, z3, z4, z5, z6, z7⟩ := (show Blk _ (w.heap.size + 1) 33 [.int .i64 0, .slice none 0 0, .slice none 0 0, .slice none 0 0, .slice none 0 0, .int .i64 0, .int .i64 0, .slice none 0 0] from HK1.out).fs
        have HKA := Lib.hid (putFS_blk HK0.out (.int .i64 room1) (.slice fa1 files1.length fc1) (.slice da1 dir1.length dc1) (.slice sa1 sure1.length sc1) (.slice ca1 changes1.length cc1) (.int .i64 steps1) (.int .i64 left1) (.slice pa1 plan1.length pc1))
        have HR1 := Lib.hid hR1'
        clear hR1 hR1' hb1
        go_upto_region 8 with fail
        refine wp_world fun w3 hw2 => ?_
        have hk0 : Blk w3 w.heap.size 33 [.int .i64 room1, .slice fa1 files1.length fc1, .slice da1 dir1.length dc1, .slice sa1 sure1.length sc1, .slice ca1 changes1.length cc1, .int .i64 steps1, .int .i64 left1, .slice pa1 plan1.length pc1] := by rw [hw2]; exact HKA.out
        have hk1 : Blk w3 (w.heap.size + 1) 33 zeroC := by rw [hw2]; exact (putFS_other (w := w2) (show w.heap.size + 1 ≠ w.heap.size by omega) _ _ _ _ _ _ _ _).trans HK1.out
        have hB2 : Below w.heap.size w w3 := by rw [hw2]; exact putFS_below HB0.out (Nat.le_refl _) _ _ _ _ _ _ _ _
        have hR2 : RFs (fun k => P k ∧ k < w.heap.size) w3 (.agg #[.int .i64 room1, .slice fa1 files1.length fc1, .slice da1 dir1.length dc1, .slice sa1 sure1.length sc1, .slice ca1 changes1.length cc1, .int .i64 steps1, .int .i64 left1, .slice pa1 plan1.length pc1]) ⟨room1, files1, dir1, sure1, changes1, steps1, left1, plan1⟩ := by
          rw [hw2]; exact HR1.out.to fun k hk => putFS_other (w := w2) (Nat.ne_of_lt hk.2) _ _ _ _ _ _ _ _
        clear hw2 HKA HR1 HB0 HK0 HK1
        clear x0 x1 x2 x3 x4 x5 x6 x7 y0 y1 y2 y3 y4 y5 y6 y7 p0 p1 p2 p3 p4 p5 p6 p7 z0 z1 z2 z3 z4 z5 z6 z7
        have HB0 := Lib.hid hB2
        have HR2 := Lib.hid hR2
        have HK0 := Lib.hid hk0
        have HK1 := Lib.hid hk1
        clear hk0 hk1 hB2 hR2
        by_cases h3 : T3 = 0
        · subst h3
          rw [if_pos rfl] at HO
          have c4 : ∀ A, (w3.alloc A).cell? ⟨w.heap.size, 1, none⟩ = some (.slice fa1 files1.length fc1) := fun A => (HK0.out.alloc A).cell rfl
          have HF1 := Lib.hid HR2.out.at_.1
          have HOE := Lib.hid (OwnRF.empty w3)
          go_wp2_with (with_reducible refine wpList_append_rf rfl (.tmp 33) (.tmp 35) rfl w3.heap.size (.slice (some ⟨w3.heap.size, 0, none⟩) 0 0) (.slice fa1 files1.length fc1) [] files1 ?_ HOE.out ?_ HF1.out ?_ ?_ ?_ ?_)
          case refine_3 => exact (Below.refl _ _).alloc (Nat.le_refl _) _
          case refine_4 => have := HTF.out; simp; omega
          intro v4 w4 ho4 hg4
          try rw [List.nil_append] at ho4
          obtain ⟨a4, q4, rfl⟩ := ho4.slice
          have hb4 : Below w3.heap.size w3 w4 := ((Below.refl _ _).alloc (Nat.le_refl _) _).grown hg4 (by simp) fun j hj => by cases hj; exact Nat.le_refl _
          have HB4 := Lib.hid hb4
          have HO4 := Lib.hid (show OwnRF w3.heap.size (w4.alloc (.cells #[.string ⟨#[]⟩, .int .i64 0] 135)) (.slice a4 files1.length q4) files1 from World.ownsRow.alloc ho4 _)
          have HN4 : Hid (RNames (w4.alloc (.cells #[.string ⟨#[]⟩, .int .i64 0] 135)) (.slice (some ⟨w4.heap.size, 0, none⟩) 1 1) [(⟨#[]⟩, 0)]) :=
            .inr ⟨w4.heap.size, 0, 1, rfl, by simp, fun j n hj => by
              match j with
              | 0 => cases hj; exact ⟨(Blk.new w4 135 [.string ⟨#[]⟩, .int .i64 0]).cell rfl, (Blk.new w4 135 [.string ⟨#[]⟩, .int .i64 0]).cell rfl⟩
              | j + 1 => cases hj⟩
          clear ho4 hg4 hb4 c4
          go_wp2_with (with_reducible refine wpList_append_rf rfl (.tmp 36) (.tmp 38) rfl w3.heap.size (.slice a4 files1.length q4) (.slice (some ⟨w4.heap.size, 0, none⟩) 1 1) files1 [(⟨#[]⟩, 0)] ?_ HO4.out ?_ HN4.out ?_ ?_ ?_ ?_)
          case refine_1 => rfl
          case refine_2 => rfl
          case refine_3 => exact Below.refl _ _
          case refine_4 => have := HTF.out; simp; omega
          case refine_5 => have := HB4.out.size; simp; omega
          intro v5 w5 ho5 hg5
          obtain ⟨N, hN⟩ : ∃ N, N = (files1 ++ [((⟨#[]⟩, 0) : RN)]).length := ⟨_, rfl⟩
          obtain ⟨a5, q5, hv5⟩ := ho5.slice
          rw [← hN] at hv5
          subst hv5
          have hsub : wrap64 ((N : Int) - 1) = (files1.length : Int) := by have := HTF.out; rw [List.length_append] at hN; simp at hN; unfold wrap64; omega
          have hb5 : Below w3.heap.size w3 w5 := (HB4.out.alloc HB4.out.size _).grown hg5 (by have := HB4.out.size; simp; omega) (fun j hj => HO4.out.own j hj)
          have hk0 := (show Blk w5 w.heap.size 33 [.int .i64 room1, .slice fa1 files1.length fc1, .slice da1 dir1.length dc1, .slice sa1 sure1.length sc1, .slice ca1 changes1.length cc1, .int .i64 steps1, .int .i64 left1, .slice pa1 plan1.length pc1] from (hb5.block _ HK0.out.lt).trans HK0.out)
          have hk1 := (show Blk w5 (w.heap.size + 1) 33 zeroC from (hb5.block _ HK1.out.lt).trans HK1.out)
          have f1 := hk0.frozen 1
          have d1 := hk0.cell (i := 1) rfl
          have HKA := Lib.hid (hk0.set 1 (.slice a5 N q5))
          have HKB := Lib.hid (hk1.set_other (a := ⟨w.heap.size, 1, none⟩) (by simp) (.slice a5 N q5))
          have HB5 := Lib.hid hb5
          have HO5 := Lib.hid ho5
          have HNL := Lib.hid (show N = files1.length + 1 by rw [hN]; simp)
          have HWS : Hid (w.heap.size + 2 ≤ w3.heap.size) := by show _ ≤ _; have := HK1.out.lt; omega
          clear hg5 hb5 hk0 hk1 ho5 HO4 HN4 HB4 hN HOE
          go_upto_region 11 with fail
          refine wp_world fun w6 hw6 => ?_
          have hk0 : Blk w6 w.heap.size 33 [.int .i64 room1, .slice a5 N q5, .slice da1 dir1.length dc1, .slice sa1 sure1.length sc1, .slice ca1 changes1.length cc1, .int .i64 steps1, .int .i64 left1, .slice pa1 plan1.length pc1] := by rw [hw6]; exact HKA.out
          have hk1 : Blk w6 (w.heap.size + 1) 33 zeroC := by rw [hw6]; exact HKB.out
          have hB6 : Below w.heap.size w w6 := by rw [hw6]; exact (HB0.out.trans (HB5.out.mono HB0.out.size)).setCell (Nat.le_refl _) _
          have hR6 : RFs (fun k => (P k ∧ k < w.heap.size) ∨ w.heap.size + 2 ≤ k) w6 (.agg #[.int .i64 room1, .slice a5 N q5, .slice da1 dir1.length dc1, .slice sa1 sure1.length sc1, .slice ca1 changes1.length cc1, .int .i64 steps1, .int .i64 left1, .slice pa1 plan1.length pc1]) ⟨room1, files1 ++ [(⟨#[]⟩, 0)], dir1, sure1, changes1, steps1, left1, plan1⟩ :=
            HR2.out.withFiles (fun k hk => by rw [hw6, heap_setCell_other w5 _ k _ (show k ≠ w.heap.size from Nat.ne_of_lt hk.2)]; exact HB5.out.block k (by have := hk.2; have := HWS.out; omega))
              (by have h9 := HO5.out.names.to (w' := w6) (fun k hk => by rw [hw6]; exact heap_setCell_other w5 _ k _ (show k ≠ w.heap.size by have := HO5.out.own k hk; have := HWS.out; omega)); exact h9)
              (fun k hk => .inr (by have := HO5.out.own k hk; have := HWS.out; omega)) (fun k hk => .inl hk)
          clear hw6 HKA HKB HB5 HO5 f1 d1 HK0 HK1 HB0 HR2 HF1
          have HB0 := Lib.hid hB6
          have HK0 := Lib.hid hk0
          have HK1 := Lib.hid hk1
          have HR6 := Lib.hid hR6
          have HKN : Hid (ROk ⟨room1, files1 ++ [(⟨#[]⟩, 0)], dir1, sure1, changes1, steps1, left1, plan1⟩) := ⟨HKT.out.dir, HKT.out.sure, by show (files1 ++ [((⟨#[]⟩, 0) : RN)]).length < 5000; have := HTF.out; simp; omega, HKT.out.changes, HKT.out.each, HKT.out.steps, HKT.out.left, HKT.out.plan⟩
          clear hB6 hk0 hk1 hR6
          have hw2 : w.heap.size + 2 ≤ w6.heap.size := by have := HK1.out.lt; omega
          have hlB : Below w6.heap.size w6 (w6.alloc (.cells #[.string s, .int .i64 (files1.length : Int)] 133)) := (Below.refl _ _).alloc (Nat.le_refl _) _
          have hlN : RNames (w6.alloc (.cells #[.string s, .int .i64 (files1.length : Int)] 133)) (.slice (some ⟨w6.heap.size, 0, none⟩) 1 1) [(s, (files1.length : Int))] :=
            .inr ⟨w6.heap.size, 0, 1, rfl, by simp, fun j n hj => by
              match j with
              | 0 => cases hj; exact ⟨(Blk.new w6 133 [.string s, .int .i64 (files1.length : Int)]).cell rfl, (Blk.new w6 133 [.string s, .int .i64 (files1.length : Int)]).cell rfl⟩
              | j + 1 => cases hj⟩
          have hTR := refTurnR (P := fun k => (P k ∧ k < w.heap.size) ∨ w.heap.size + 2 ≤ k) _ _ ⟨room1, files1 ++ [(⟨#[]⟩, 0)], dir1, sure1, changes1, steps1, left1, plan1⟩ [(s, (files1.length : Int))] (w6.alloc (.cells #[.string s, .int .i64 (files1.length : Int)] 133)) (HR6.out.below hlB) HKN.out hlN (by simp) (fun k hk => by cases hk; exact .inr hw2)
          have HTR := Lib.hid hTR
          have HLB := Lib.hid hlB
          have HW2 := Lib.hid hw2
          clear hTR hlB hlN hw2
          obtain ⟨x0, x1, x2, x3, x4, x5, x6, x7, y0, y1, y2, y3, y4, y5, y6, y7⟩ := HK0.out.fs
          obtain ⟨p0, p1, p2, p3, p4, p5, p6, p7, z0, z1, z2, z3, z4, z5, z6, z7⟩ := (show Blk _ (w.heap.size + 1) 33 [.int .i64 0, .slice none 0 0, .slice none 0 0, .slice none 0 0, .slice none 0 0, .int .i64 0, .int .i64 0, .slice none 0 0] from HK1.out).fs
          go_wp2_with fail
          clear x0 x1 x2 x3 x4 x5 x6 x7 y0 y1 y2 y3 y4 y5 y6 y7 p0 p1 p2 p3 p4 p5 p6 p7 z0 z1 z2 z3 z4 z5 z6 z7
          refine HTR.out.mono ?_; rintro e w5 ⟨v5, rfl, hR5, hb5⟩
          have hb5' := HLB.out.trans (hb5.mono HLB.out.size)
          have hk0 := (show Blk w5 w.heap.size 33 [.int .i64 room1, .slice a5 N q5, .slice da1 dir1.length dc1, .slice sa1 sure1.length sc1, .slice ca1 changes1.length cc1, .int .i64 steps1, .int .i64 left1, .slice pa1 plan1.length pc1] from (hb5'.block _ HK0.out.lt).trans HK0.out)
          have hk1 := (show Blk w5 (w.heap.size + 1) 33 zeroC from (hb5'.block _ HK1.out.lt).trans HK1.out)
          have hB := HB0.out.trans (hb5'.mono HB0.out.size)
          clear HK0 HK1 HB0
          have HK0 := Lib.hid hk0
          have HK1 := Lib.hid hk1
          have HB0 := Lib.hid hB
          clear hk0 hk1 hB
          obtain ⟨fa5, fc5, da5, dc5, sa5, sc5, ca5, cc5, pa5, pc5, cvs5, rfl, -⟩ := hR5.parts
          have HR5 := Lib.hid (hR5.mono (Q := fun k => (P k ∧ k < w.heap.size) ∨ w.heap.size + 2 ≤ k) fun k hk => hk.elim id (fun h => .inr (by have := HW2.out; have := HLB.out.size; omega)))
          generalize turnS ⟨room1, files1 ++ [(⟨#[]⟩, 0)], dir1, sure1, changes1, steps1, left1, plan1⟩ [(s, (files1.length : Int))] = T5 at *
          obtain ⟨room5, files5, dir5, sure5, changes5, steps5, left5, plan5⟩ := T5
          simp only at HR5 HO
          clear hR5 hb5 hb5' HTR
          obtain ⟨x0, x1, x2, x3, x4, x5, x6, x7, y0, y1, y2, y3, y4, y5, y6, y7⟩ := HK0.out.fs
          obtain ⟨p0, p1, p2, p3, p4, p5, p6, p7, z0, z1, z2, z3, z4, z5, z6, z7⟩ := (show Blk _ (w.heap.size + 1) 33 [.int .i64 0, .slice none 0 0, .slice none 0 0, .slice none 0 0, .slice none 0 0, .int .i64 0, .int .i64 0, .slice none 0 0] from HK1.out).fs
          go_wp2_with fail
          have hkF := putFS_blk HK1.out (.int .i64 room5) (.slice fa5 files5.length fc5) (.slice da5 dir5.length dc5) (.slice sa5 sure5.length sc5) (.slice ca5 changes5.length cc5) (.int .i64 steps5) (.int .i64 left5) (.slice pa5 plan5.length pc5)
          obtain ⟨d0, d1, d2, d3, d4, d5, d6, d7, -⟩ := hkF.fs
          unfold putFS at d0 d1 d2 d3 d4 d5 d6 d7
          refine bodyPost_ret (v := .tuple #[.agg #[.int .i64 room5, .slice fa5 files5.length fc5, .slice da5 dir5.length dc5, .slice sa5 sure5.length sc5, .slice ca5 changes5.length cc5, .int .i64 steps5, .int .i64 left5, .slice pa5 plan5.length pc5], .int .i64 0]) (by simp [results, Tryz.results51, go_sem, d0, d1, d2, d3, d4, d5, d6, d7]) rfl ⟨_, by rw [HO.out], ?_, ?_⟩
          · rw [HO.out]; exact (HR5.out.to fun k hk => putFS_other (show k ≠ w.heap.size + 1 by rcases hk with hk | hk <;> omega) _ _ _ _ _ _ _ _).mono fun _ hk => hk.imp (fun h => h.1) (fun h => by omega)
          · exact putFS_below HB0.out (by omega) _ _ _ _ _ _ _ _
        · rw [if_neg h3] at HO
          obtain ⟨x0, x1, x2, x3, x4, x5, x6, x7, y0, y1, y2, y3, y4, y5, y6, y7⟩ := HK0.out.fs
          obtain ⟨p0, p1, p2, p3, p4, p5, p6, p7, z0, z1, z2, z3, z4, z5, z6, z7⟩ := (show Blk _ (w.heap.size + 1) 33 [.int .i64 0, .slice none 0 0, .slice none 0 0, .slice none 0 0, .slice none 0 0, .int .i64 0, .int .i64 0, .slice none 0 0] from HK1.out).fs
          go_wp2_with fail
          have hkF := putFS_blk HK1.out (.int .i64 room1) (.slice fa1 files1.length fc1) (.slice da1 dir1.length dc1) (.slice sa1 sure1.length sc1) (.slice ca1 changes1.length cc1) (.int .i64 steps1) (.int .i64 left1) (.slice pa1 plan1.length pc1)
          obtain ⟨d0, d1, d2, d3, d4, d5, d6, d7, -⟩ := hkF.fs
          unfold putFS at d0 d1 d2 d3 d4 d5 d6 d7
          refine bodyPost_ret (v := .tuple #[.agg #[.int .i64 room1, .slice fa1 files1.length fc1, .slice da1 dir1.length dc1, .slice sa1 sure1.length sc1, .slice ca1 changes1.length cc1, .int .i64 steps1, .int .i64 left1, .slice pa1 plan1.length pc1], .int .i64 T3]) (by simp [results, Tryz.results51, go_sem, d0, d1, d2, d3, d4, d5, d6, d7]) rfl ⟨_, by rw [HO.out], ?_, ?_⟩
          · rw [HO.out]; exact (HR2.out.to fun k hk => putFS_other (show k ≠ w.heap.size + 1 by have := hk.2; omega) _ _ _ _ _ _ _ _).mono fun _ hk => .inl hk.1
          · exact putFS_below HB0.out (by omega) _ _ _ _ _ _ _ _
end Go.Proofs.YtigbgajelkknbaaGreatDoor
namespace Go.Proofs.YtigbgajelkknbaaGreatDoor
open Go.RowKit
set_option maxRecDepth 100000

theorem extract_none (a b : ByteArray) : a ++ b.extract 0 0 = a := by apply ByteArray.ext; simp
/-- How many bytes are put. -/
def putR (how code n left : Int) : Int := if code = 0 then n else if code = 20 ∧ 2 < how then max 0 (min (min (how - 3) n) left) else 0
/-- What 'Append' makes of it, and the error. -/
def appendR (R : RSt) (s b : ByteArray) : RSt × Int :=
  if (openR R s).2 = 0 then (if 65536 < (fileR R (openR R s).1.toNat).1.size + b.size then (R, 5) else if (stepR R).2.2 = 0 ∧ (stepR R).1.room - (usedR (stepR R).1 : Int) < b.size then ((stepR R).1, 21) else (setR (stepR R).1 (openR R s).1.toNat ((fileR R (openR R s).1.toNat).1 ++ b.extract 0 (putR (stepR R).2.1 (stepR R).2.2 b.size ((stepR R).1.room - (usedR (stepR R).1 : Int))).toNat, (fileR R (openR R s).1.toNat).2), (stepR R).2.2)) else (R, (openR R s).2)
theorem usedR_le {R : RSt} (hk : ROk R) (hw : RWell R) : usedR R ≤ 5000000000 := by
  have h := sum_le R.dir (fun x => szR R x.2) 1000000 fun x => by
    unfold szR
    rw [List.getD_eq_getElem?_getD]
    cases e : R.files[x.2.toNat]? with
    | none => exact Nat.zero_le _
    | some f => exact hw.size f (List.mem_of_getElem? e)
  have : R.dir.length * 1000000 ≤ 5000 * 1000000 := Nat.mul_le_mul_right _ (by have := hk.dir; omega)
  unfold usedR; omega
set_option maxRecDepth 100000 in
set_option maxHeartbeats 4000000 in
theorem refAppend_any {P : Nat → Prop} (v : Value) (R : RSt) (s b : ByteArray) (w : World) (h : RFs P w v R) (hk : ROk R) (hks : R.steps < 4611686018427387903) (hw : RWell R) (hrm : 0 ≤ R.room ∧ R.room ≤ 1048576) (hpl : ∀ k ∈ R.plan, k ≤ 9223372036854775807) (hsz : s.size ≤ 9223372036854775807) (hbs : b.size ≤ 1000000) :
    Calls Tryz.prog 52 #[v, .string s, .string b] w fun e w' => ∃ v', e = .returned (.tuple #[v', .int .i64 (appendR R s b).2]) ∧ RFs (fun k => P k ∨ w.heap.size ≤ k) w' v' (appendR R s b).1 ∧ Below w.heap.size w w' := by
  have HO := Lib.hid (show appendR R s b = if (openR R s).2 = 0 then (if 65536 < (fileR R (openR R s).1.toNat).1.size + b.size then (R, 5) else if (stepR R).2.2 = 0 ∧ (stepR R).1.room - (usedR (stepR R).1 : Int) < b.size then ((stepR R).1, 21) else (setR (stepR R).1 (openR R s).1.toNat ((fileR R (openR R s).1.toNat).1 ++ b.extract 0 (putR (stepR R).2.1 (stepR R).2.2 b.size ((stepR R).1.room - (usedR (stepR R).1 : Int))).toNat, (fileR R (openR R s).1.toNat).2), (stepR R).2.2)) else (R, (openR R s).2) from rfl)
  have hP := h.lt
  have HS := Lib.hid (fun (w0 : World) (hb : Below w.heap.size w w0) => refStepR v R w0 (hP.below hb) hk)
  have HF := Lib.hid (fun (w0 : World) (hb : Below w.heap.size w w0) => refOpen_any v R s w0 (hP.below hb) hk hsz)
  have HP := Lib.hid hP
  have HKT := Lib.hid (hk.step hks)
  have HQ := Lib.hid (fun h => openR_ok (s := s) hw h)
  have HTS := Lib.hid (stepR_same R)
  have HRM := Lib.hid hrm
  have HWR := Lib.hid hw
  have HHW : Hid ((stepR R).2.1 ≤ 9223372036854775807) := by
    show _ ≤ _
    unfold stepR
    split
    · simp
    · show howR R.plan ≤ _
      unfold howR
      cases hp : R.plan with
      | nil => simp
      | cons a l => exact hpl a (by rw [hp]; exact List.mem_cons_self)
  generalize appendR R s b = Z at HO
  generalize openR R s = q at HO HF HQ
  generalize stepR R = T at HO HS HKT HTS HHW
  obtain ⟨q1, q2⟩ := q
  obtain ⟨T1, T2, T3⟩ := T
  obtain ⟨fa, fc, da, dc, sa, sc, ca, cc, pa, pc, cvs, rfl, -⟩ := h.parts
  clear h hk hP hw hrm hpl hsz
  simp only at HO HKT HTS HQ HHW
  have HBS := Lib.hid hbs
  go_enter Tryz.func52, Tryz.ntmps52
  go_wp2_with fail
  refine calls_world fun w0 hw0 => ?_
  have hB0 : Below w.heap.size w w0 := by rw [hw0]; exact ((Below.refl _ _).alloc (Nat.le_refl _) _).alloc (by simp) _
  have hK0 : Blk w0 w.heap.size 33 [.int .i64 R.room, .slice fa R.files.length fc, .slice da R.dir.length dc, .slice sa R.sure.length sc, .slice ca R.changes.length cc, .int .i64 R.steps, .int .i64 R.left, .slice pa R.plan.length pc] := by rw [hw0]; exact (Blk.new w 33 [.int .i64 R.room, .slice fa R.files.length fc, .slice da R.dir.length dc, .slice sa R.sure.length sc, .slice ca R.changes.length cc, .int .i64 R.steps, .int .i64 R.left, .slice pa R.plan.length pc]).alloc _
  have hK1 : Blk w0 (w.heap.size + 1) 33 zeroC := by
    rw [hw0]
    have := Blk.new (w.alloc (.cells #[.int .i64 R.room, .slice fa R.files.length fc, .slice da R.dir.length dc, .slice sa R.sure.length sc, .slice ca R.changes.length cc, .int .i64 R.steps, .int .i64 R.left, .slice pa R.plan.length pc] 33)) 33 zeroC
    rw [World.size_alloc] at this
    exact this
  have HB0 := Lib.hid hB0
  have HK0 := Lib.hid hK0
  have HK1 := Lib.hid hK1
  clear hw0 hB0 hK0 hK1
  refine (HF.out w0 HB0.out).mono ?_; rintro e w1 ⟨rfl, hb1⟩
  have hk0 := (show Blk w1 w.heap.size 33 [.int .i64 R.room, .slice fa R.files.length fc, .slice da R.dir.length dc, .slice sa R.sure.length sc, .slice ca R.changes.length cc, .int .i64 R.steps, .int .i64 R.left, .slice pa R.plan.length pc] from (hb1.block _ HK0.out.lt).trans HK0.out)
  have hk1 := (show Blk w1 (w.heap.size + 1) 33 zeroC from (hb1.block _ HK1.out.lt).trans HK1.out)
  have hB := HB0.out.trans (hb1.mono HB0.out.size)
  clear HK0 HK1 HB0
  have HK0 := Lib.hid hk0
  have HK1 := Lib.hid hk1
  have HB0 := Lib.hid hB
  clear hk0 hk1 hB
  clear hb1
  by_cases h2 : q2 = 0
  · subst h2
    obtain ⟨k, rfl, hkl⟩ := HQ.out rfl
    rw [if_pos rfl, Int.toNat_natCast] at HO
    have lk : (k : Int) < R.files.length := by omega
    have hfg := fileR_get (R := R) hkl
    have hfsz : (fileR R k).1.size ≤ 1000000 := HWR.out.size _ (List.mem_of_getElem? hfg)
    generalize fileR R k = y at HO hfg hfsz
    obtain ⟨yd, ys⟩ := y
    simp only at HO hfsz
    have HYB := Lib.hid hfsz
    rcases (HP.out.below HB0.out).at_.1 with ⟨_, h0⟩ | ⟨g, o, cap, hv, hb, hc⟩
    · rw [h0] at hkl; simp at hkl
    obtain ⟨c1, c2⟩ := hc k _ hfg
    cases hv
    have HKL := Lib.hid hkl
    clear hb hc hfg hkl hfsz
    obtain ⟨x0, x1, x2, x3, x4, x5, x6, x7, y0, y1, y2, y3, y4, y5, y6, y7⟩ := HK0.out.fs
    obtain ⟨p0, p1, p2, p3, p4, p5, p6, p7, z0, z1, z2, z3, z4, z5, z6, z7⟩ := (show Blk _ (w.heap.size + 1) 33 [.int .i64 0, .slice none 0 0, .slice none 0 0, .slice none 0 0, .slice none 0 0, .int .i64 0, .int .i64 0, .slice none 0 0] from HK1.out).fs
    go_upto_region 5 with fail
    refine wp_world fun w1b hw2 => ?_
    have hxY : Blk w1b w1.heap.size 135 [.string yd, .int .i64 ys] := by rw [hw2]; exact Blk.new w1 135 [.string yd, .int .i64 ys]
    have hbx : Below w1.heap.size w1 w1b := by rw [hw2]; exact (Below.refl _ _).alloc (Nat.le_refl _) _
    have HEY : Hid (w.heap.size + 2 ≤ w1.heap.size) := by show _ ≤ _; have := HK1.out.lt; omega
    clear hw2
    have HY := Lib.hid hxY
    clear hxY
    clear x0 x1 x2 x3 x4 x5 x6 x7 y0 y1 y2 y3 y4 y5 y6 y7 p0 p1 p2 p3 p4 p5 p6 p7 z0 z1 z2 z3 z4 z5 z6 z7
    clear c1 c2
    have hk0 := (show Blk w1b w.heap.size 33 [.int .i64 R.room, .slice (some ⟨g, o, none⟩) R.files.length fc, .slice da R.dir.length dc, .slice sa R.sure.length sc, .slice ca R.changes.length cc, .int .i64 R.steps, .int .i64 R.left, .slice pa R.plan.length pc] from (hbx.block _ HK0.out.lt).trans HK0.out)
    have hk1 := (show Blk w1b (w.heap.size + 1) 33 zeroC from (hbx.block _ HK1.out.lt).trans HK1.out)
    have hB := HB0.out.trans (hbx.mono HB0.out.size)
    clear HK0 HK1 HB0
    have HK0 := Lib.hid hk0
    have HK1 := Lib.hid hk1
    have HB0 := Lib.hid hB
    clear hk0 hk1 hB
    clear hbx
    have hadd : wrap64 ((yd.size : Int) + (b.size : Int)) = (yd.size : Int) + (b.size : Int) := by have := HYB.out; have := HBS.out; unfold wrap64; omega
    by_cases hbig : 65536 < yd.size + b.size
    · rw [if_pos hbig] at HO
      have hbig' : (65536 : Int) < (yd.size : Int) + (b.size : Int) := by omega
      obtain ⟨x0, x1, x2, x3, x4, x5, x6, x7, y0, y1, y2, y3, y4, y5, y6, y7⟩ := HK0.out.fs
      obtain ⟨p0, p1, p2, p3, p4, p5, p6, p7, z0, z1, z2, z3, z4, z5, z6, z7⟩ := (show Blk _ (w.heap.size + 1) 33 [.int .i64 0, .slice none 0 0, .slice none 0 0, .slice none 0 0, .slice none 0 0, .int .i64 0, .int .i64 0, .slice none 0 0] from HK1.out).fs
      have xY0 := HY.out.cell (i := 0) rfl
      have xY1 := HY.out.cell (i := 1) rfl
      have xfY0 := HY.out.frozen 0
      have xfY1 := HY.out.frozen 1
      go_wp2_with fail
      have hkF := putFS_blk HK1.out (.int .i64 R.room) (.slice (some ⟨g, o, none⟩) R.files.length fc) (.slice da R.dir.length dc) (.slice sa R.sure.length sc) (.slice ca R.changes.length cc) (.int .i64 R.steps) (.int .i64 R.left) (.slice pa R.plan.length pc)
      obtain ⟨d0, d1, d2, d3, d4, d5, d6, d7, -⟩ := hkF.fs
      unfold putFS at d0 d1 d2 d3 d4 d5 d6 d7
      refine bodyPost_ret (v := .tuple #[.agg #[.int .i64 R.room, .slice (some ⟨g, o, none⟩) R.files.length fc, .slice da R.dir.length dc, .slice sa R.sure.length sc, .slice ca R.changes.length cc, .int .i64 R.steps, .int .i64 R.left, .slice pa R.plan.length pc], .int .i64 5]) (by simp [results, Tryz.results52, go_sem, d0, d1, d2, d3, d4, d5, d6, d7]) rfl ⟨_, by rw [HO.out], ?_, ?_⟩
      · rw [HO.out]; exact ((HP.out.below HB0.out).to fun k hk => putFS_other (show k ≠ w.heap.size + 1 by have := hk.2; omega) _ _ _ _ _ _ _ _).mono fun _ hk => .inl hk.1
      · exact putFS_below HB0.out (by omega) _ _ _ _ _ _ _ _
    · rw [if_neg hbig] at HO
      have hbig' : ¬ (65536 : Int) < (yd.size : Int) + (b.size : Int) := by omega
      obtain ⟨x0, x1, x2, x3, x4, x5, x6, x7, y0, y1, y2, y3, y4, y5, y6, y7⟩ := HK0.out.fs
      obtain ⟨p0, p1, p2, p3, p4, p5, p6, p7, z0, z1, z2, z3, z4, z5, z6, z7⟩ := (show Blk _ (w.heap.size + 1) 33 [.int .i64 0, .slice none 0 0, .slice none 0 0, .slice none 0 0, .slice none 0 0, .int .i64 0, .int .i64 0, .slice none 0 0] from HK1.out).fs
      have xY0 := HY.out.cell (i := 0) rfl
      have xY1 := HY.out.cell (i := 1) rfl
      have xfY0 := HY.out.frozen 0
      have xfY1 := HY.out.frozen 1
      go_wp2_with fail
      clear x0 x1 x2 x3 x4 x5 x6 x7 y0 y1 y2 y3 y4 y5 y6 y7 p0 p1 p2 p3 p4 p5 p6 p7 z0 z1 z2 z3 z4 z5 z6 z7
      clear xY0 xY1 xfY0 xfY1
      clear hadd hbig hbig'
      refine (HS.out w1b HB0.out).mono ?_; rintro e w2 ⟨v1, rfl, hR1, hb1⟩
      have hR1' := hR1.below hb1
      obtain ⟨fa1, fc1, da1, dc1, sa1, sc1, ca1, cc1, pa1, pc1, cvs1, rfl, -⟩ := hR1.parts
      obtain ⟨room1, files1, dir1, sure1, changes1, steps1, left1, plan1⟩ := T1
      simp only at HO hR1 hR1'
      have hk0 := (show Blk w2 w.heap.size 33 [.int .i64 R.room, .slice (some ⟨g, o, none⟩) R.files.length fc, .slice da R.dir.length dc, .slice sa R.sure.length sc, .slice ca R.changes.length cc, .int .i64 R.steps, .int .i64 R.left, .slice pa R.plan.length pc] from (hb1.block _ HK0.out.lt).trans HK0.out)
      have hk1 := (show Blk w2 (w.heap.size + 1) 33 zeroC from (hb1.block _ HK1.out.lt).trans HK1.out)
      have hB := HB0.out.trans (hb1.mono HB0.out.size)
      clear HK0 HK1 HB0
      have HK0 := Lib.hid hk0
      have HK1 := Lib.hid hk1
      have HB0 := Lib.hid hB
      clear hk0 hk1 hB
      have hxY := (show Blk w2 w1.heap.size 135 [.string yd, .int .i64 ys] from (hb1.block _ HY.out.lt).trans HY.out)
      clear HY
      have HY := Lib.hid hxY
      clear hxY
      obtain ⟨x0, x1, x2, x3, x4, x5, x6, x7, y0, y1, y2, y3, y4, y5, y6, y7⟩ := HK0.out.fs
      obtain ⟨p0, p1, p2, p3, p4, p5, p6, p7, z0, z1, z2, z3, z4, z5, z6, z7⟩ := (show Blk _ (w.heap.size + 1) 33 [.int .i64 0, .slice none 0 0, .slice none 0 0, .slice none 0 0, .slice none 0 0, .int .i64 0, .int .i64 0, .slice none 0 0] from HK1.out).fs
      have HKA := Lib.hid (putFS_blk HK0.out (.int .i64 room1) (.slice fa1 files1.length fc1) (.slice da1 dir1.length dc1) (.slice sa1 sure1.length sc1) (.slice ca1 changes1.length cc1) (.int .i64 steps1) (.int .i64 left1) (.slice pa1 plan1.length pc1))
      have HR1 := Lib.hid hR1'
      clear hR1 hR1' hb1
      go_upto_region 8 with fail
      refine wp_world fun w3 hw2 => ?_
      have hk0 : Blk w3 w.heap.size 33 [.int .i64 room1, .slice fa1 files1.length fc1, .slice da1 dir1.length dc1, .slice sa1 sure1.length sc1, .slice ca1 changes1.length cc1, .int .i64 steps1, .int .i64 left1, .slice pa1 plan1.length pc1] := by rw [hw2]; exact HKA.out
      have hk1 : Blk w3 (w.heap.size + 1) 33 zeroC := by rw [hw2]; exact (putFS_other (w := w2) (show w.heap.size + 1 ≠ w.heap.size by omega) _ _ _ _ _ _ _ _).trans HK1.out
      have hxY : Blk w3 w1.heap.size 135 [.string yd, .int .i64 ys] := by rw [hw2]; exact (putFS_other (w := w2) (show w1.heap.size ≠ w.heap.size by have := HEY.out; omega) _ _ _ _ _ _ _ _).trans HY.out
      have hB2 : Below w.heap.size w w3 := by rw [hw2]; exact putFS_below HB0.out (Nat.le_refl _) _ _ _ _ _ _ _ _
      have hR2 : RFs (fun k => P k ∧ k < w.heap.size) w3 (.agg #[.int .i64 room1, .slice fa1 files1.length fc1, .slice da1 dir1.length dc1, .slice sa1 sure1.length sc1, .slice ca1 changes1.length cc1, .int .i64 steps1, .int .i64 left1, .slice pa1 plan1.length pc1]) ⟨room1, files1, dir1, sure1, changes1, steps1, left1, plan1⟩ := by
        rw [hw2]; exact HR1.out.to fun k hk => putFS_other (w := w2) (Nat.ne_of_lt hk.2) _ _ _ _ _ _ _ _
      clear hw2 HKA HR1 HB0 HK0 HK1
      clear HY
      have HY := Lib.hid hxY
      clear hxY
      clear x0 x1 x2 x3 x4 x5 x6 x7 y0 y1 y2 y3 y4 y5 y6 y7 p0 p1 p2 p3 p4 p5 p6 p7 z0 z1 z2 z3 z4 z5 z6 z7
      have HB0 := Lib.hid hB2
      have HR2 := Lib.hid hR2
      have HK0 := Lib.hid hk0
      have HK1 := Lib.hid hk1
      clear hk0 hk1 hB2 hR2
      have HKL1 : Hid (k < files1.length) := by show k < files1.length; rw [show files1 = R.files from HTS.out.1]; exact HKL.out
      have HW1 : Hid (RWell ⟨room1, files1, dir1, sure1, changes1, steps1, left1, plan1⟩) := ⟨fun x hx => by
          have e1 : files1 = R.files := HTS.out.1
          have e2 : dir1 = R.dir := HTS.out.2.1
          show 0 ≤ x.2 ∧ x.2 < files1.length
          rw [e1]; exact HWR.out.dir x (by rw [← e2]; exact hx), fun f hf => HWR.out.size f (by rw [← show files1 = R.files from HTS.out.1]; exact hf)⟩
      have hu := usedR_le HKT.out HW1.out
      have hro : 0 ≤ room1 ∧ room1 ≤ 1048576 := by rw [show room1 = R.room from HTS.out.2.2.2.2]; exact HRM.out
      have HBD := Lib.hid (⟨rfl, rfl, rfl, Nat.le_refl _, fun _ _ => rfl⟩ : Below w3.heap.size w3 w3.drew)
      have HU := Lib.hid (refUsed_any _ ⟨room1, files1, dir1, sure1, changes1, steps1, left1, plan1⟩ w3.drew (HR2.out.below HBD.out) HKT.out HW1.out)
      obtain ⟨L, hL⟩ : ∃ L, L = room1 - (usedR ⟨room1, files1, dir1, sure1, changes1, steps1, left1, plan1⟩ : Int) := ⟨_, rfl⟩
      rw [← hL] at HO
      have hsub : IntKind.i64.wrap (room1 - (usedR ⟨room1, files1, dir1, sure1, changes1, steps1, left1, plan1⟩ : Int)) = L := by rw [hL]; exact IntWalk.i64_in _ (by omega)
      have hLb : -5000000000 ≤ L ∧ L ≤ 1048576 := by omega
      generalize usedR ⟨room1, files1, dir1, sure1, changes1, steps1, left1, plan1⟩ = u at HU hsub
      have HLB := Lib.hid hLb
      clear hu hro hL hLb
      have HSK : Hid (∀ W, Below w3.heap.size w3 W → (W.cell? ⟨w.heap.size, 0, none⟩ = some (.int .i64 room1) ∧ W.cell? ⟨w.heap.size, 1, none⟩ = some (.slice fa1 files1.length fc1) ∧ W.cell? ⟨w.heap.size, 2, none⟩ = some (.slice da1 dir1.length dc1) ∧ W.cell? ⟨w.heap.size, 3, none⟩ = some (.slice sa1 sure1.length sc1) ∧ W.cell? ⟨w.heap.size, 4, none⟩ = some (.slice ca1 changes1.length cc1) ∧ W.cell? ⟨w.heap.size, 5, none⟩ = some (.int .i64 steps1) ∧ W.cell? ⟨w.heap.size, 6, none⟩ = some (.int .i64 left1) ∧ W.cell? ⟨w.heap.size, 7, none⟩ = some (.slice pa1 plan1.length pc1))) := fun W hW => by
        obtain ⟨x0, x1, x2, x3, x4, x5, x6, x7, -⟩ := (show Blk W w.heap.size 33 [.int .i64 room1, .slice fa1 files1.length fc1, .slice da1 dir1.length dc1, .slice sa1 sure1.length sc1, .slice ca1 changes1.length cc1, .int .i64 steps1, .int .i64 left1, .slice pa1 plan1.length pc1] from (hW.block _ HK0.out.lt).trans HK0.out).fs
        exact ⟨x0, x1, x2, x3, x4, x5, x6, x7⟩
      go_region_held_law (fun W => W.cell? ⟨w.heap.size, 0, none⟩ = some (.int .i64 room1) ∧ W.cell? ⟨w.heap.size, 1, none⟩ = some (.slice fa1 files1.length fc1) ∧ W.cell? ⟨w.heap.size, 2, none⟩ = some (.slice da1 dir1.length dc1) ∧ W.cell? ⟨w.heap.size, 3, none⟩ = some (.slice sa1 sure1.length sc1) ∧ W.cell? ⟨w.heap.size, 4, none⟩ = some (.slice ca1 changes1.length cc1) ∧ W.cell? ⟨w.heap.size, 5, none⟩ = some (.int .i64 steps1) ∧ W.cell? ⟨w.heap.size, 6, none⟩ = some (.int .i64 left1) ∧ W.cell? ⟨w.heap.size, 7, none⟩ = some (.slice pa1 plan1.length pc1)) (first | assumption | (exact HSK.out _ HBD.out) | (exact HSK.out _ (HBD.out.trans hb4))) (first | (go_simp; go_at_call 66; refine HU.out.mono ?_; rintro e w4 ⟨rfl, hb4⟩))
      have hb4' : Below w3.heap.size w3 w4 := HBD.out.trans hb4
      have hR4 := HR2.out.below hb4'
      have hk0 := (show Blk w4 w.heap.size 33 [.int .i64 room1, .slice fa1 files1.length fc1, .slice da1 dir1.length dc1, .slice sa1 sure1.length sc1, .slice ca1 changes1.length cc1, .int .i64 steps1, .int .i64 left1, .slice pa1 plan1.length pc1] from (hb4'.block _ HK0.out.lt).trans HK0.out)
      have hk1 := (show Blk w4 (w.heap.size + 1) 33 zeroC from (hb4'.block _ HK1.out.lt).trans HK1.out)
      have hB := HB0.out.trans (hb4'.mono HB0.out.size)
      clear HK0 HK1 HB0
      have HK0 := Lib.hid hk0
      have HK1 := Lib.hid hk1
      have HB0 := Lib.hid hB
      clear hk0 hk1 hB
      have hxY := (show Blk w4 w1.heap.size 135 [.string yd, .int .i64 ys] from (hb4'.block _ HY.out.lt).trans HY.out)
      clear HY
      have HY := Lib.hid hxY
      clear hxY
      clear HR2 hb4 hb4' HU HSK HBD
      have HR2 := Lib.hid hR4
      clear hR4
      clear hsub
      have HLX : Hid (b.size ≤ 1000000) := HBS.out
      by_cases h3 : T3 = 0
      · subst h3
        by_cases hLn : L < (b.size : Int)
        · rw [if_pos ⟨rfl, hLn⟩] at HO
          obtain ⟨x0, x1, x2, x3, x4, x5, x6, x7, y0, y1, y2, y3, y4, y5, y6, y7⟩ := HK0.out.fs
          obtain ⟨p0, p1, p2, p3, p4, p5, p6, p7, z0, z1, z2, z3, z4, z5, z6, z7⟩ := (show Blk _ (w.heap.size + 1) 33 [.int .i64 0, .slice none 0 0, .slice none 0 0, .slice none 0 0, .slice none 0 0, .int .i64 0, .int .i64 0, .slice none 0 0] from HK1.out).fs
          go_wp2_with fail
          have hkF := putFS_blk HK1.out (.int .i64 room1) (.slice fa1 files1.length fc1) (.slice da1 dir1.length dc1) (.slice sa1 sure1.length sc1) (.slice ca1 changes1.length cc1) (.int .i64 steps1) (.int .i64 left1) (.slice pa1 plan1.length pc1)
          obtain ⟨d0, d1, d2, d3, d4, d5, d6, d7, -⟩ := hkF.fs
          unfold putFS at d0 d1 d2 d3 d4 d5 d6 d7
          refine bodyPost_ret (v := .tuple #[.agg #[.int .i64 room1, .slice fa1 files1.length fc1, .slice da1 dir1.length dc1, .slice sa1 sure1.length sc1, .slice ca1 changes1.length cc1, .int .i64 steps1, .int .i64 left1, .slice pa1 plan1.length pc1], .int .i64 21]) (by simp [results, Tryz.results52, go_sem, d0, d1, d2, d3, d4, d5, d6, d7]) rfl ⟨_, by rw [HO.out], ?_, ?_⟩
          · rw [HO.out]; exact (HR2.out.to fun k hk => putFS_other (show k ≠ w.heap.size + 1 by have := hk.2; omega) _ _ _ _ _ _ _ _).mono fun _ hk => .inl hk.1
          · exact putFS_below HB0.out (by omega) _ _ _ _ _ _ _ _
        · rw [if_neg (fun h => hLn h.2), show putR T2 0 b.size L = (b.size : Int) from if_pos rfl, Int.toNat_natCast, ByteArray.extract_zero_size] at HO
          have hLn' : (b.size : Int) ≤ L := by omega
          have HPN : Hid (b.size ≤ b.size) := Nat.le_refl _
          have hex : (b.extract 0 b.size).size ≤ b.size := by rw [ByteArray.size_extract]; omega
          have hcat : ¬ (9223372036854775807 < yd.size + (b.extract 0 b.size).size) := by have := HYB.out; have := HBS.out; omega
          have hcatb : ¬ (9223372036854775807 < yd.size + b.size) := by have := HYB.out; have := HBS.out; omega
          have lp : b.size ≤ b.size := HPN.out
          have xY0 := HY.out.cell (i := 0) rfl
          go_upto_region 19 with fail
          refine wp_region_quiet_tail 6 (by kernel_rfl) (by kernel_rfl) ?_
          simp only [List.take_succ_cons, List.take_zero, List.drop_succ_cons, List.drop_zero]
          repeat (go_big_quiet_step (fail))
          refine wpQuiet_nil ?_
          intro nq
          clear hex hcat hcatb lp xY0
          have xY0 := (HY.out.drewN nq).cell (i := 0) rfl
          have xfY0 := (HY.out.drewN nq).frozen 0
          go_upto_region 20 with fail
          refine wp_world fun w5' hw5 => ?_
          have hE : w.heap.size + 2 ≤ w1.heap.size := HEY.out
          have hk0 : Blk w5' w.heap.size 33 [.int .i64 room1, .slice fa1 files1.length fc1, .slice da1 dir1.length dc1, .slice sa1 sure1.length sc1, .slice ca1 changes1.length cc1, .int .i64 steps1, .int .i64 left1, .slice pa1 plan1.length pc1] := by rw [hw5]; exact (HK0.out.drewN nq).set_other (a := ⟨w1.heap.size, 0, none⟩) (show w.heap.size ≠ w1.heap.size by omega) _
          have hk1 : Blk w5' (w.heap.size + 1) 33 zeroC := by rw [hw5]; exact (HK1.out.drewN nq).set_other (a := ⟨w1.heap.size, 0, none⟩) (show w.heap.size + 1 ≠ w1.heap.size by omega) _
          have hky : Blk w5' w1.heap.size 135 [.string (yd ++ b), .int .i64 ys] := by rw [hw5]; exact (HY.out.drewN nq).set 0 (.string (yd ++ b))
          have hB5 : Below w.heap.size w w5' := by rw [hw5]; exact (Below.drewN HB0.out nq).setCell (p := ⟨w1.heap.size, 0, none⟩) (show w.heap.size ≤ w1.heap.size by omega) _
          have hR5 : RFs (fun k => P k ∧ k < w.heap.size) w5' (.agg #[.int .i64 room1, .slice fa1 files1.length fc1, .slice da1 dir1.length dc1, .slice sa1 sure1.length sc1, .slice ca1 changes1.length cc1, .int .i64 steps1, .int .i64 left1, .slice pa1 plan1.length pc1]) ⟨room1, files1, dir1, sure1, changes1, steps1, left1, plan1⟩ := HR2.out.to fun k hk => by rw [hw5, heap_setCell_other _ _ k _ (show k ≠ w1.heap.size by have := hk.2; omega)]; rfl
          clear hw5 xY0 xfY0 HK0 HK1 HY HB0 HR2 HKL hE
          have HB0 := Lib.hid hB5
          have HK0 := Lib.hid hk0
          have HK1 := Lib.hid hk1
          have HY := Lib.hid hky
          have HR2 := Lib.hid hR5
          have HKL := Lib.hid HKL1.out
          clear hB5 hk0 hk1 hky hR5
          have hST := refSet_any (P := fun k => P k ∧ k < w.heap.size) _ ⟨room1, files1, dir1, sure1, changes1, steps1, left1, plan1⟩ k ((yd ++ b), ys) w5' HR2.out HKT.out HKL.out
          have HST := Lib.hid hST
          have HW2 : Hid (w.heap.size + 2 ≤ w5'.heap.size) := by show _ ≤ _; have := HK1.out.lt; omega
          clear hST
          obtain ⟨x0, x1, x2, x3, x4, x5, x6, x7, y0, y1, y2, y3, y4, y5, y6, y7⟩ := HK0.out.fs
          obtain ⟨p0, p1, p2, p3, p4, p5, p6, p7, z0, z1, z2, z3, z4, z5, z6, z7⟩ := (show Blk _ (w.heap.size + 1) 33 [.int .i64 0, .slice none 0 0, .slice none 0 0, .slice none 0 0, .slice none 0 0, .int .i64 0, .int .i64 0, .slice none 0 0] from HK1.out).fs
          have xY0 := HY.out.cell (i := 0) rfl
          have xY1 := HY.out.cell (i := 1) rfl
          have xfY0 := HY.out.frozen 0
          have xfY1 := HY.out.frozen 1
          go_wp2_with fail
          clear x0 x1 x2 x3 x4 x5 x6 x7 y0 y1 y2 y3 y4 y5 y6 y7 p0 p1 p2 p3 p4 p5 p6 p7 z0 z1 z2 z3 z4 z5 z6 z7
          clear xY0 xY1 xfY0 xfY1
          refine HST.out.mono ?_; rintro e w5 ⟨v5, rfl, hR5, hb5⟩
          have hk0 := (show Blk w5 w.heap.size 33 [.int .i64 room1, .slice fa1 files1.length fc1, .slice da1 dir1.length dc1, .slice sa1 sure1.length sc1, .slice ca1 changes1.length cc1, .int .i64 steps1, .int .i64 left1, .slice pa1 plan1.length pc1] from (hb5.block _ HK0.out.lt).trans HK0.out)
          have hk1 := (show Blk w5 (w.heap.size + 1) 33 zeroC from (hb5.block _ HK1.out.lt).trans HK1.out)
          have hB := HB0.out.trans (hb5.mono HB0.out.size)
          clear HK0 HK1 HB0
          have HK0 := Lib.hid hk0
          have HK1 := Lib.hid hk1
          have HB0 := Lib.hid hB
          clear hk0 hk1 hB
          obtain ⟨fa5, fc5, da5, dc5, sa5, sc5, ca5, cc5, pa5, pc5, cvs5, rfl, -⟩ := hR5.parts
          have HR5 := Lib.hid (hR5.mono (Q := fun k => (P k ∧ k < w.heap.size) ∨ w.heap.size + 2 ≤ k) fun k hk => hk.elim .inl (fun h => .inr (by have := HW2.out; omega)))
          generalize setR ⟨room1, files1, dir1, sure1, changes1, steps1, left1, plan1⟩ k ((yd ++ b), ys) = T5 at *
          obtain ⟨room5, files5, dir5, sure5, changes5, steps5, left5, plan5⟩ := T5
          simp only at HR5 HO
          clear hR5 hb5 HST
          obtain ⟨x0, x1, x2, x3, x4, x5, x6, x7, y0, y1, y2, y3, y4, y5, y6, y7⟩ := HK0.out.fs
          obtain ⟨p0, p1, p2, p3, p4, p5, p6, p7, z0, z1, z2, z3, z4, z5, z6, z7⟩ := (show Blk _ (w.heap.size + 1) 33 [.int .i64 0, .slice none 0 0, .slice none 0 0, .slice none 0 0, .slice none 0 0, .int .i64 0, .int .i64 0, .slice none 0 0] from HK1.out).fs
          go_wp2_with fail
          have hkF := putFS_blk HK1.out (.int .i64 room5) (.slice fa5 files5.length fc5) (.slice da5 dir5.length dc5) (.slice sa5 sure5.length sc5) (.slice ca5 changes5.length cc5) (.int .i64 steps5) (.int .i64 left5) (.slice pa5 plan5.length pc5)
          obtain ⟨d0, d1, d2, d3, d4, d5, d6, d7, -⟩ := hkF.fs
          unfold putFS at d0 d1 d2 d3 d4 d5 d6 d7
          refine bodyPost_ret (v := .tuple #[.agg #[.int .i64 room5, .slice fa5 files5.length fc5, .slice da5 dir5.length dc5, .slice sa5 sure5.length sc5, .slice ca5 changes5.length cc5, .int .i64 steps5, .int .i64 left5, .slice pa5 plan5.length pc5], .int .i64 0]) (by simp [results, Tryz.results52, go_sem, d0, d1, d2, d3, d4, d5, d6, d7]) rfl ⟨_, by rw [HO.out], ?_, ?_⟩
          · rw [HO.out]; exact (HR5.out.to fun k hk => putFS_other (show k ≠ w.heap.size + 1 by rcases hk with hk | hk <;> omega) _ _ _ _ _ _ _ _).mono fun _ hk => hk.imp (fun h => h.1) (fun h => by omega)
          · exact putFS_below HB0.out (by omega) _ _ _ _ _ _ _ _
      · rw [if_neg (fun h => h3 h.1)] at HO
        by_cases hio : T3 = 20 ∧ 2 < T2
        · obtain ⟨rfl, ht⟩ := hio
          have hs3 : wrap64 (T2 - 3) = T2 - 3 := by have := HHW.out; unfold wrap64; omega
          have hp0 : putR T2 20 b.size L = max 0 (min (min (T2 - 3) b.size) L) := by unfold putR; rw [if_neg (by decide), if_pos ⟨rfl, ht⟩]
          by_cases hgt : (b.size : Int) < T2 - 3
          · obtain ⟨pn, hpn⟩ : ∃ pn : Nat, max 0 (min (b.size : Int) L) = pn := ⟨(max 0 (min (b.size : Int) L)).toNat, by omega⟩
            have HPN : Hid (pn ≤ b.size) := by show pn ≤ b.size; omega
            rw [hp0, show min (T2 - 3) (b.size : Int) = b.size by omega, hpn, Int.toNat_natCast] at HO
            clear hp0
            have hex : (b.extract 0 pn).size ≤ b.size := by rw [ByteArray.size_extract]; omega
            have hcat : ¬ (9223372036854775807 < yd.size + (b.extract 0 pn).size) := by have := HYB.out; have := HBS.out; omega
            have hcatb : ¬ (9223372036854775807 < yd.size + b.size) := by have := HYB.out; have := HBS.out; omega
            have lp : pn ≤ b.size := HPN.out
            have xY0 := HY.out.cell (i := 0) rfl
            go_upto_region 19 with fail
            refine wp_region_quiet_tail 6 (by kernel_rfl) (by kernel_rfl) ?_
            simp only [List.take_succ_cons, List.take_zero, List.drop_succ_cons, List.drop_zero]
            repeat (go_big_quiet_step (fail))
            refine wpQuiet_nil ?_
            intro nq
            clear hex hcat hcatb lp xY0
            have xY0 := (HY.out.drewN nq).cell (i := 0) rfl
            have xfY0 := (HY.out.drewN nq).frozen 0
            go_upto_region 20 with fail
            refine wp_world fun w5' hw5 => ?_
            have hE : w.heap.size + 2 ≤ w1.heap.size := HEY.out
            have hk0 : Blk w5' w.heap.size 33 [.int .i64 room1, .slice fa1 files1.length fc1, .slice da1 dir1.length dc1, .slice sa1 sure1.length sc1, .slice ca1 changes1.length cc1, .int .i64 steps1, .int .i64 left1, .slice pa1 plan1.length pc1] := by rw [hw5]; exact (HK0.out.drewN nq).set_other (a := ⟨w1.heap.size, 0, none⟩) (show w.heap.size ≠ w1.heap.size by omega) _
            have hk1 : Blk w5' (w.heap.size + 1) 33 zeroC := by rw [hw5]; exact (HK1.out.drewN nq).set_other (a := ⟨w1.heap.size, 0, none⟩) (show w.heap.size + 1 ≠ w1.heap.size by omega) _
            have hky : Blk w5' w1.heap.size 135 [.string (yd ++ b.extract 0 pn), .int .i64 ys] := by rw [hw5]; exact (HY.out.drewN nq).set 0 (.string (yd ++ b.extract 0 pn))
            have hB5 : Below w.heap.size w w5' := by rw [hw5]; exact (Below.drewN HB0.out nq).setCell (p := ⟨w1.heap.size, 0, none⟩) (show w.heap.size ≤ w1.heap.size by omega) _
            have hR5 : RFs (fun k => P k ∧ k < w.heap.size) w5' (.agg #[.int .i64 room1, .slice fa1 files1.length fc1, .slice da1 dir1.length dc1, .slice sa1 sure1.length sc1, .slice ca1 changes1.length cc1, .int .i64 steps1, .int .i64 left1, .slice pa1 plan1.length pc1]) ⟨room1, files1, dir1, sure1, changes1, steps1, left1, plan1⟩ := HR2.out.to fun k hk => by rw [hw5, heap_setCell_other _ _ k _ (show k ≠ w1.heap.size by have := hk.2; omega)]; rfl
            clear hw5 xY0 xfY0 HK0 HK1 HY HB0 HR2 HKL hE
            have HB0 := Lib.hid hB5
            have HK0 := Lib.hid hk0
            have HK1 := Lib.hid hk1
            have HY := Lib.hid hky
            have HR2 := Lib.hid hR5
            have HKL := Lib.hid HKL1.out
            clear hB5 hk0 hk1 hky hR5
            have hST := refSet_any (P := fun k => P k ∧ k < w.heap.size) _ ⟨room1, files1, dir1, sure1, changes1, steps1, left1, plan1⟩ k ((yd ++ b.extract 0 pn), ys) w5' HR2.out HKT.out HKL.out
            have HST := Lib.hid hST
            have HW2 : Hid (w.heap.size + 2 ≤ w5'.heap.size) := by show _ ≤ _; have := HK1.out.lt; omega
            clear hST
            obtain ⟨x0, x1, x2, x3, x4, x5, x6, x7, y0, y1, y2, y3, y4, y5, y6, y7⟩ := HK0.out.fs
            obtain ⟨p0, p1, p2, p3, p4, p5, p6, p7, z0, z1, z2, z3, z4, z5, z6, z7⟩ := (show Blk _ (w.heap.size + 1) 33 [.int .i64 0, .slice none 0 0, .slice none 0 0, .slice none 0 0, .slice none 0 0, .int .i64 0, .int .i64 0, .slice none 0 0] from HK1.out).fs
            have xY0 := HY.out.cell (i := 0) rfl
            have xY1 := HY.out.cell (i := 1) rfl
            have xfY0 := HY.out.frozen 0
            have xfY1 := HY.out.frozen 1
            go_wp2_with fail
            clear x0 x1 x2 x3 x4 x5 x6 x7 y0 y1 y2 y3 y4 y5 y6 y7 p0 p1 p2 p3 p4 p5 p6 p7 z0 z1 z2 z3 z4 z5 z6 z7
            clear xY0 xY1 xfY0 xfY1
            refine HST.out.mono ?_; rintro e w5 ⟨v5, rfl, hR5, hb5⟩
            have hk0 := (show Blk w5 w.heap.size 33 [.int .i64 room1, .slice fa1 files1.length fc1, .slice da1 dir1.length dc1, .slice sa1 sure1.length sc1, .slice ca1 changes1.length cc1, .int .i64 steps1, .int .i64 left1, .slice pa1 plan1.length pc1] from (hb5.block _ HK0.out.lt).trans HK0.out)
            have hk1 := (show Blk w5 (w.heap.size + 1) 33 zeroC from (hb5.block _ HK1.out.lt).trans HK1.out)
            have hB := HB0.out.trans (hb5.mono HB0.out.size)
            clear HK0 HK1 HB0
            have HK0 := Lib.hid hk0
            have HK1 := Lib.hid hk1
            have HB0 := Lib.hid hB
            clear hk0 hk1 hB
            obtain ⟨fa5, fc5, da5, dc5, sa5, sc5, ca5, cc5, pa5, pc5, cvs5, rfl, -⟩ := hR5.parts
            have HR5 := Lib.hid (hR5.mono (Q := fun k => (P k ∧ k < w.heap.size) ∨ w.heap.size + 2 ≤ k) fun k hk => hk.elim .inl (fun h => .inr (by have := HW2.out; omega)))
            generalize setR ⟨room1, files1, dir1, sure1, changes1, steps1, left1, plan1⟩ k ((yd ++ b.extract 0 pn), ys) = T5 at *
            obtain ⟨room5, files5, dir5, sure5, changes5, steps5, left5, plan5⟩ := T5
            simp only at HR5 HO
            clear hR5 hb5 HST
            obtain ⟨x0, x1, x2, x3, x4, x5, x6, x7, y0, y1, y2, y3, y4, y5, y6, y7⟩ := HK0.out.fs
            obtain ⟨p0, p1, p2, p3, p4, p5, p6, p7, z0, z1, z2, z3, z4, z5, z6, z7⟩ := (show Blk _ (w.heap.size + 1) 33 [.int .i64 0, .slice none 0 0, .slice none 0 0, .slice none 0 0, .slice none 0 0, .int .i64 0, .int .i64 0, .slice none 0 0] from HK1.out).fs
            go_wp2_with fail
            have hkF := putFS_blk HK1.out (.int .i64 room5) (.slice fa5 files5.length fc5) (.slice da5 dir5.length dc5) (.slice sa5 sure5.length sc5) (.slice ca5 changes5.length cc5) (.int .i64 steps5) (.int .i64 left5) (.slice pa5 plan5.length pc5)
            obtain ⟨d0, d1, d2, d3, d4, d5, d6, d7, -⟩ := hkF.fs
            unfold putFS at d0 d1 d2 d3 d4 d5 d6 d7
            refine bodyPost_ret (v := .tuple #[.agg #[.int .i64 room5, .slice fa5 files5.length fc5, .slice da5 dir5.length dc5, .slice sa5 sure5.length sc5, .slice ca5 changes5.length cc5, .int .i64 steps5, .int .i64 left5, .slice pa5 plan5.length pc5], .int .i64 20]) (by simp [results, Tryz.results52, go_sem, d0, d1, d2, d3, d4, d5, d6, d7]) rfl ⟨_, by rw [HO.out], ?_, ?_⟩
            · rw [HO.out]; exact (HR5.out.to fun k hk => putFS_other (show k ≠ w.heap.size + 1 by rcases hk with hk | hk <;> omega) _ _ _ _ _ _ _ _).mono fun _ hk => hk.imp (fun h => h.1) (fun h => by omega)
            · exact putFS_below HB0.out (by omega) _ _ _ _ _ _ _ _
          · obtain ⟨pn, hpn⟩ : ∃ pn : Nat, max 0 (min (T2 - 3) L) = pn := ⟨(max 0 (min (T2 - 3) L)).toNat, by omega⟩
            have HPN : Hid (pn ≤ b.size) := by show pn ≤ b.size; omega
            rw [hp0, show min (T2 - 3) (b.size : Int) = T2 - 3 by omega, hpn, Int.toNat_natCast] at HO
            clear hp0
            have hex : (b.extract 0 pn).size ≤ b.size := by rw [ByteArray.size_extract]; omega
            have hcat : ¬ (9223372036854775807 < yd.size + (b.extract 0 pn).size) := by have := HYB.out; have := HBS.out; omega
            have hcatb : ¬ (9223372036854775807 < yd.size + b.size) := by have := HYB.out; have := HBS.out; omega
            have lp : pn ≤ b.size := HPN.out
            have xY0 := HY.out.cell (i := 0) rfl
            go_upto_region 19 with fail
            refine wp_region_quiet_tail 6 (by kernel_rfl) (by kernel_rfl) ?_
            simp only [List.take_succ_cons, List.take_zero, List.drop_succ_cons, List.drop_zero]
            repeat (go_big_quiet_step (fail))
            refine wpQuiet_nil ?_
            intro nq
            clear hex hcat hcatb lp xY0
            have xY0 := (HY.out.drewN nq).cell (i := 0) rfl
            have xfY0 := (HY.out.drewN nq).frozen 0
            go_upto_region 20 with fail
            refine wp_world fun w5' hw5 => ?_
            have hE : w.heap.size + 2 ≤ w1.heap.size := HEY.out
            have hk0 : Blk w5' w.heap.size 33 [.int .i64 room1, .slice fa1 files1.length fc1, .slice da1 dir1.length dc1, .slice sa1 sure1.length sc1, .slice ca1 changes1.length cc1, .int .i64 steps1, .int .i64 left1, .slice pa1 plan1.length pc1] := by rw [hw5]; exact (HK0.out.drewN nq).set_other (a := ⟨w1.heap.size, 0, none⟩) (show w.heap.size ≠ w1.heap.size by omega) _
            have hk1 : Blk w5' (w.heap.size + 1) 33 zeroC := by rw [hw5]; exact (HK1.out.drewN nq).set_other (a := ⟨w1.heap.size, 0, none⟩) (show w.heap.size + 1 ≠ w1.heap.size by omega) _
            have hky : Blk w5' w1.heap.size 135 [.string (yd ++ b.extract 0 pn), .int .i64 ys] := by rw [hw5]; exact (HY.out.drewN nq).set 0 (.string (yd ++ b.extract 0 pn))
            have hB5 : Below w.heap.size w w5' := by rw [hw5]; exact (Below.drewN HB0.out nq).setCell (p := ⟨w1.heap.size, 0, none⟩) (show w.heap.size ≤ w1.heap.size by omega) _
            have hR5 : RFs (fun k => P k ∧ k < w.heap.size) w5' (.agg #[.int .i64 room1, .slice fa1 files1.length fc1, .slice da1 dir1.length dc1, .slice sa1 sure1.length sc1, .slice ca1 changes1.length cc1, .int .i64 steps1, .int .i64 left1, .slice pa1 plan1.length pc1]) ⟨room1, files1, dir1, sure1, changes1, steps1, left1, plan1⟩ := HR2.out.to fun k hk => by rw [hw5, heap_setCell_other _ _ k _ (show k ≠ w1.heap.size by have := hk.2; omega)]; rfl
            clear hw5 xY0 xfY0 HK0 HK1 HY HB0 HR2 HKL hE
            have HB0 := Lib.hid hB5
            have HK0 := Lib.hid hk0
            have HK1 := Lib.hid hk1
            have HY := Lib.hid hky
            have HR2 := Lib.hid hR5
            have HKL := Lib.hid HKL1.out
            clear hB5 hk0 hk1 hky hR5
            have hST := refSet_any (P := fun k => P k ∧ k < w.heap.size) _ ⟨room1, files1, dir1, sure1, changes1, steps1, left1, plan1⟩ k ((yd ++ b.extract 0 pn), ys) w5' HR2.out HKT.out HKL.out
            have HST := Lib.hid hST
            have HW2 : Hid (w.heap.size + 2 ≤ w5'.heap.size) := by show _ ≤ _; have := HK1.out.lt; omega
            clear hST
            obtain ⟨x0, x1, x2, x3, x4, x5, x6, x7, y0, y1, y2, y3, y4, y5, y6, y7⟩ := HK0.out.fs
            obtain ⟨p0, p1, p2, p3, p4, p5, p6, p7, z0, z1, z2, z3, z4, z5, z6, z7⟩ := (show Blk _ (w.heap.size + 1) 33 [.int .i64 0, .slice none 0 0, .slice none 0 0, .slice none 0 0, .slice none 0 0, .int .i64 0, .int .i64 0, .slice none 0 0] from HK1.out).fs
            have xY0 := HY.out.cell (i := 0) rfl
            have xY1 := HY.out.cell (i := 1) rfl
            have xfY0 := HY.out.frozen 0
            have xfY1 := HY.out.frozen 1
            go_wp2_with fail
            clear x0 x1 x2 x3 x4 x5 x6 x7 y0 y1 y2 y3 y4 y5 y6 y7 p0 p1 p2 p3 p4 p5 p6 p7 z0 z1 z2 z3 z4 z5 z6 z7
            clear xY0 xY1 xfY0 xfY1
            refine HST.out.mono ?_; rintro e w5 ⟨v5, rfl, hR5, hb5⟩
            have hk0 := (show Blk w5 w.heap.size 33 [.int .i64 room1, .slice fa1 files1.length fc1, .slice da1 dir1.length dc1, .slice sa1 sure1.length sc1, .slice ca1 changes1.length cc1, .int .i64 steps1, .int .i64 left1, .slice pa1 plan1.length pc1] from (hb5.block _ HK0.out.lt).trans HK0.out)
            have hk1 := (show Blk w5 (w.heap.size + 1) 33 zeroC from (hb5.block _ HK1.out.lt).trans HK1.out)
            have hB := HB0.out.trans (hb5.mono HB0.out.size)
            clear HK0 HK1 HB0
            have HK0 := Lib.hid hk0
            have HK1 := Lib.hid hk1
            have HB0 := Lib.hid hB
            clear hk0 hk1 hB
            obtain ⟨fa5, fc5, da5, dc5, sa5, sc5, ca5, cc5, pa5, pc5, cvs5, rfl, -⟩ := hR5.parts
            have HR5 := Lib.hid (hR5.mono (Q := fun k => (P k ∧ k < w.heap.size) ∨ w.heap.size + 2 ≤ k) fun k hk => hk.elim .inl (fun h => .inr (by have := HW2.out; omega)))
            generalize setR ⟨room1, files1, dir1, sure1, changes1, steps1, left1, plan1⟩ k ((yd ++ b.extract 0 pn), ys) = T5 at *
            obtain ⟨room5, files5, dir5, sure5, changes5, steps5, left5, plan5⟩ := T5
            simp only at HR5 HO
            clear hR5 hb5 HST
            obtain ⟨x0, x1, x2, x3, x4, x5, x6, x7, y0, y1, y2, y3, y4, y5, y6, y7⟩ := HK0.out.fs
            obtain ⟨p0, p1, p2, p3, p4, p5, p6, p7, z0, z1, z2, z3, z4, z5, z6, z7⟩ := (show Blk _ (w.heap.size + 1) 33 [.int .i64 0, .slice none 0 0, .slice none 0 0, .slice none 0 0, .slice none 0 0, .int .i64 0, .int .i64 0, .slice none 0 0] from HK1.out).fs
            go_wp2_with fail
            have hkF := putFS_blk HK1.out (.int .i64 room5) (.slice fa5 files5.length fc5) (.slice da5 dir5.length dc5) (.slice sa5 sure5.length sc5) (.slice ca5 changes5.length cc5) (.int .i64 steps5) (.int .i64 left5) (.slice pa5 plan5.length pc5)
            obtain ⟨d0, d1, d2, d3, d4, d5, d6, d7, -⟩ := hkF.fs
            unfold putFS at d0 d1 d2 d3 d4 d5 d6 d7
            refine bodyPost_ret (v := .tuple #[.agg #[.int .i64 room5, .slice fa5 files5.length fc5, .slice da5 dir5.length dc5, .slice sa5 sure5.length sc5, .slice ca5 changes5.length cc5, .int .i64 steps5, .int .i64 left5, .slice pa5 plan5.length pc5], .int .i64 20]) (by simp [results, Tryz.results52, go_sem, d0, d1, d2, d3, d4, d5, d6, d7]) rfl ⟨_, by rw [HO.out], ?_, ?_⟩
            · rw [HO.out]; exact (HR5.out.to fun k hk => putFS_other (show k ≠ w.heap.size + 1 by rcases hk with hk | hk <;> omega) _ _ _ _ _ _ _ _).mono fun _ hk => hk.imp (fun h => h.1) (fun h => by omega)
            · exact putFS_below HB0.out (by omega) _ _ _ _ _ _ _ _
        · rw [show putR T2 T3 b.size L = ((0 : Nat) : Int) by unfold putR; rw [if_neg h3, if_neg hio]; rfl, Int.toNat_natCast, extract_none] at HO
          have HPN : Hid (0 ≤ b.size) := Nat.zero_le _
          by_cases h20 : T3 = 20
          · subst h20
            have ht : ¬ 2 < T2 := fun h => hio ⟨rfl, h⟩
            have hex : (b.extract 0 0).size ≤ b.size := by rw [ByteArray.size_extract]; omega
            have hcat : ¬ (9223372036854775807 < yd.size + (b.extract 0 0).size) := by have := HYB.out; have := HBS.out; omega
            have hcatb : ¬ (9223372036854775807 < yd.size + b.size) := by have := HYB.out; have := HBS.out; omega
            have lp : 0 ≤ b.size := HPN.out
            have xY0 := HY.out.cell (i := 0) rfl
            go_upto_region 19 with fail
            refine wp_region_quiet_tail 6 (by kernel_rfl) (by kernel_rfl) ?_
            simp only [List.take_succ_cons, List.take_zero, List.drop_succ_cons, List.drop_zero]
            repeat (go_big_quiet_step (fail))
            refine wpQuiet_nil ?_
            intro nq
            clear hex hcat hcatb lp xY0
            have xY0 := (HY.out.drewN nq).cell (i := 0) rfl
            have xfY0 := (HY.out.drewN nq).frozen 0
            go_upto_region 20 with fail
            refine wp_world fun w5' hw5 => ?_
            have hE : w.heap.size + 2 ≤ w1.heap.size := HEY.out
            have hk0 : Blk w5' w.heap.size 33 [.int .i64 room1, .slice fa1 files1.length fc1, .slice da1 dir1.length dc1, .slice sa1 sure1.length sc1, .slice ca1 changes1.length cc1, .int .i64 steps1, .int .i64 left1, .slice pa1 plan1.length pc1] := by rw [hw5]; exact (HK0.out.drewN nq).set_other (a := ⟨w1.heap.size, 0, none⟩) (show w.heap.size ≠ w1.heap.size by omega) _
            have hk1 : Blk w5' (w.heap.size + 1) 33 zeroC := by rw [hw5]; exact (HK1.out.drewN nq).set_other (a := ⟨w1.heap.size, 0, none⟩) (show w.heap.size + 1 ≠ w1.heap.size by omega) _
            have hky : Blk w5' w1.heap.size 135 [.string yd, .int .i64 ys] := by rw [hw5]; exact (HY.out.drewN nq).set 0 (.string yd)
            have hB5 : Below w.heap.size w w5' := by rw [hw5]; exact (Below.drewN HB0.out nq).setCell (p := ⟨w1.heap.size, 0, none⟩) (show w.heap.size ≤ w1.heap.size by omega) _
            have hR5 : RFs (fun k => P k ∧ k < w.heap.size) w5' (.agg #[.int .i64 room1, .slice fa1 files1.length fc1, .slice da1 dir1.length dc1, .slice sa1 sure1.length sc1, .slice ca1 changes1.length cc1, .int .i64 steps1, .int .i64 left1, .slice pa1 plan1.length pc1]) ⟨room1, files1, dir1, sure1, changes1, steps1, left1, plan1⟩ := HR2.out.to fun k hk => by rw [hw5, heap_setCell_other _ _ k _ (show k ≠ w1.heap.size by have := hk.2; omega)]; rfl
            clear hw5 xY0 xfY0 HK0 HK1 HY HB0 HR2 HKL hE
            have HB0 := Lib.hid hB5
            have HK0 := Lib.hid hk0
            have HK1 := Lib.hid hk1
            have HY := Lib.hid hky
            have HR2 := Lib.hid hR5
            have HKL := Lib.hid HKL1.out
            clear hB5 hk0 hk1 hky hR5
            have hST := refSet_any (P := fun k => P k ∧ k < w.heap.size) _ ⟨room1, files1, dir1, sure1, changes1, steps1, left1, plan1⟩ k (yd, ys) w5' HR2.out HKT.out HKL.out
            have HST := Lib.hid hST
            have HW2 : Hid (w.heap.size + 2 ≤ w5'.heap.size) := by show _ ≤ _; have := HK1.out.lt; omega
            clear hST
            obtain ⟨x0, x1, x2, x3, x4, x5, x6, x7, y0, y1, y2, y3, y4, y5, y6, y7⟩ := HK0.out.fs
            obtain ⟨p0, p1, p2, p3, p4, p5, p6, p7, z0, z1, z2, z3, z4, z5, z6, z7⟩ := (show Blk _ (w.heap.size + 1) 33 [.int .i64 0, .slice none 0 0, .slice none 0 0, .slice none 0 0, .slice none 0 0, .int .i64 0, .int .i64 0, .slice none 0 0] from HK1.out).fs
            have xY0 := HY.out.cell (i := 0) rfl
            have xY1 := HY.out.cell (i := 1) rfl
            have xfY0 := HY.out.frozen 0
            have xfY1 := HY.out.frozen 1
            go_wp2_with fail
            clear x0 x1 x2 x3 x4 x5 x6 x7 y0 y1 y2 y3 y4 y5 y6 y7 p0 p1 p2 p3 p4 p5 p6 p7 z0 z1 z2 z3 z4 z5 z6 z7
            clear xY0 xY1 xfY0 xfY1
            refine HST.out.mono ?_; rintro e w5 ⟨v5, rfl, hR5, hb5⟩
            have hk0 := (show Blk w5 w.heap.size 33 [.int .i64 room1, .slice fa1 files1.length fc1, .slice da1 dir1.length dc1, .slice sa1 sure1.length sc1, .slice ca1 changes1.length cc1, .int .i64 steps1, .int .i64 left1, .slice pa1 plan1.length pc1] from (hb5.block _ HK0.out.lt).trans HK0.out)
            have hk1 := (show Blk w5 (w.heap.size + 1) 33 zeroC from (hb5.block _ HK1.out.lt).trans HK1.out)
            have hB := HB0.out.trans (hb5.mono HB0.out.size)
            clear HK0 HK1 HB0
            have HK0 := Lib.hid hk0
            have HK1 := Lib.hid hk1
            have HB0 := Lib.hid hB
            clear hk0 hk1 hB
            obtain ⟨fa5, fc5, da5, dc5, sa5, sc5, ca5, cc5, pa5, pc5, cvs5, rfl, -⟩ := hR5.parts
            have HR5 := Lib.hid (hR5.mono (Q := fun k => (P k ∧ k < w.heap.size) ∨ w.heap.size + 2 ≤ k) fun k hk => hk.elim .inl (fun h => .inr (by have := HW2.out; omega)))
            generalize setR ⟨room1, files1, dir1, sure1, changes1, steps1, left1, plan1⟩ k (yd, ys) = T5 at *
            obtain ⟨room5, files5, dir5, sure5, changes5, steps5, left5, plan5⟩ := T5
            simp only at HR5 HO
            clear hR5 hb5 HST
            obtain ⟨x0, x1, x2, x3, x4, x5, x6, x7, y0, y1, y2, y3, y4, y5, y6, y7⟩ := HK0.out.fs
            obtain ⟨p0, p1, p2, p3, p4, p5, p6, p7, z0, z1, z2, z3, z4, z5, z6, z7⟩ := (show Blk _ (w.heap.size + 1) 33 [.int .i64 0, .slice none 0 0, .slice none 0 0, .slice none 0 0, .slice none 0 0, .int .i64 0, .int .i64 0, .slice none 0 0] from HK1.out).fs
            go_wp2_with fail
            have hkF := putFS_blk HK1.out (.int .i64 room5) (.slice fa5 files5.length fc5) (.slice da5 dir5.length dc5) (.slice sa5 sure5.length sc5) (.slice ca5 changes5.length cc5) (.int .i64 steps5) (.int .i64 left5) (.slice pa5 plan5.length pc5)
            obtain ⟨d0, d1, d2, d3, d4, d5, d6, d7, -⟩ := hkF.fs
            unfold putFS at d0 d1 d2 d3 d4 d5 d6 d7
            refine bodyPost_ret (v := .tuple #[.agg #[.int .i64 room5, .slice fa5 files5.length fc5, .slice da5 dir5.length dc5, .slice sa5 sure5.length sc5, .slice ca5 changes5.length cc5, .int .i64 steps5, .int .i64 left5, .slice pa5 plan5.length pc5], .int .i64 20]) (by simp [results, Tryz.results52, go_sem, d0, d1, d2, d3, d4, d5, d6, d7]) rfl ⟨_, by rw [HO.out], ?_, ?_⟩
            · rw [HO.out]; exact (HR5.out.to fun k hk => putFS_other (show k ≠ w.heap.size + 1 by rcases hk with hk | hk <;> omega) _ _ _ _ _ _ _ _).mono fun _ hk => hk.imp (fun h => h.1) (fun h => by omega)
            · exact putFS_below HB0.out (by omega) _ _ _ _ _ _ _ _
          · skip
            have hex : (b.extract 0 0).size ≤ b.size := by rw [ByteArray.size_extract]; omega
            have hcat : ¬ (9223372036854775807 < yd.size + (b.extract 0 0).size) := by have := HYB.out; have := HBS.out; omega
            have hcatb : ¬ (9223372036854775807 < yd.size + b.size) := by have := HYB.out; have := HBS.out; omega
            have lp : 0 ≤ b.size := HPN.out
            have xY0 := HY.out.cell (i := 0) rfl
            go_upto_region 19 with fail
            refine wp_region_quiet_tail 6 (by kernel_rfl) (by kernel_rfl) ?_
            simp only [List.take_succ_cons, List.take_zero, List.drop_succ_cons, List.drop_zero]
            repeat (go_big_quiet_step (fail))
            refine wpQuiet_nil ?_
            intro nq
            clear hex hcat hcatb lp xY0
            have xY0 := (HY.out.drewN nq).cell (i := 0) rfl
            have xfY0 := (HY.out.drewN nq).frozen 0
            go_upto_region 20 with fail
            refine wp_world fun w5' hw5 => ?_
            have hE : w.heap.size + 2 ≤ w1.heap.size := HEY.out
            have hk0 : Blk w5' w.heap.size 33 [.int .i64 room1, .slice fa1 files1.length fc1, .slice da1 dir1.length dc1, .slice sa1 sure1.length sc1, .slice ca1 changes1.length cc1, .int .i64 steps1, .int .i64 left1, .slice pa1 plan1.length pc1] := by rw [hw5]; exact (HK0.out.drewN nq).set_other (a := ⟨w1.heap.size, 0, none⟩) (show w.heap.size ≠ w1.heap.size by omega) _
            have hk1 : Blk w5' (w.heap.size + 1) 33 zeroC := by rw [hw5]; exact (HK1.out.drewN nq).set_other (a := ⟨w1.heap.size, 0, none⟩) (show w.heap.size + 1 ≠ w1.heap.size by omega) _
            have hky : Blk w5' w1.heap.size 135 [.string yd, .int .i64 ys] := by rw [hw5]; exact (HY.out.drewN nq).set 0 (.string yd)
            have hB5 : Below w.heap.size w w5' := by rw [hw5]; exact (Below.drewN HB0.out nq).setCell (p := ⟨w1.heap.size, 0, none⟩) (show w.heap.size ≤ w1.heap.size by omega) _
            have hR5 : RFs (fun k => P k ∧ k < w.heap.size) w5' (.agg #[.int .i64 room1, .slice fa1 files1.length fc1, .slice da1 dir1.length dc1, .slice sa1 sure1.length sc1, .slice ca1 changes1.length cc1, .int .i64 steps1, .int .i64 left1, .slice pa1 plan1.length pc1]) ⟨room1, files1, dir1, sure1, changes1, steps1, left1, plan1⟩ := HR2.out.to fun k hk => by rw [hw5, heap_setCell_other _ _ k _ (show k ≠ w1.heap.size by have := hk.2; omega)]; rfl
            clear hw5 xY0 xfY0 HK0 HK1 HY HB0 HR2 HKL hE
            have HB0 := Lib.hid hB5
            have HK0 := Lib.hid hk0
            have HK1 := Lib.hid hk1
            have HY := Lib.hid hky
            have HR2 := Lib.hid hR5
            have HKL := Lib.hid HKL1.out
            clear hB5 hk0 hk1 hky hR5
            have hST := refSet_any (P := fun k => P k ∧ k < w.heap.size) _ ⟨room1, files1, dir1, sure1, changes1, steps1, left1, plan1⟩ k (yd, ys) w5' HR2.out HKT.out HKL.out
            have HST := Lib.hid hST
            have HW2 : Hid (w.heap.size + 2 ≤ w5'.heap.size) := by show _ ≤ _; have := HK1.out.lt; omega
            clear hST
            obtain ⟨x0, x1, x2, x3, x4, x5, x6, x7, y0, y1, y2, y3, y4, y5, y6, y7⟩ := HK0.out.fs
            obtain ⟨p0, p1, p2, p3, p4, p5, p6, p7, z0, z1, z2, z3, z4, z5, z6, z7⟩ := (show Blk _ (w.heap.size + 1) 33 [.int .i64 0, .slice none 0 0, .slice none 0 0, .slice none 0 0, .slice none 0 0, .int .i64 0, .int .i64 0, .slice none 0 0] from HK1.out).fs
            have xY0 := HY.out.cell (i := 0) rfl
            have xY1 := HY.out.cell (i := 1) rfl
            have xfY0 := HY.out.frozen 0
            have xfY1 := HY.out.frozen 1
            go_wp2_with fail
            clear x0 x1 x2 x3 x4 x5 x6 x7 y0 y1 y2 y3 y4 y5 y6 y7 p0 p1 p2 p3 p4 p5 p6 p7 z0 z1 z2 z3 z4 z5 z6 z7
            clear xY0 xY1 xfY0 xfY1
            refine HST.out.mono ?_; rintro e w5 ⟨v5, rfl, hR5, hb5⟩
            have hk0 := (show Blk w5 w.heap.size 33 [.int .i64 room1, .slice fa1 files1.length fc1, .slice da1 dir1.length dc1, .slice sa1 sure1.length sc1, .slice ca1 changes1.length cc1, .int .i64 steps1, .int .i64 left1, .slice pa1 plan1.length pc1] from (hb5.block _ HK0.out.lt).trans HK0.out)
            have hk1 := (show Blk w5 (w.heap.size + 1) 33 zeroC from (hb5.block _ HK1.out.lt).trans HK1.out)
            have hB := HB0.out.trans (hb5.mono HB0.out.size)
            clear HK0 HK1 HB0
            have HK0 := Lib.hid hk0
            have HK1 := Lib.hid hk1
            have HB0 := Lib.hid hB
            clear hk0 hk1 hB
            obtain ⟨fa5, fc5, da5, dc5, sa5, sc5, ca5, cc5, pa5, pc5, cvs5, rfl, -⟩ := hR5.parts
            have HR5 := Lib.hid (hR5.mono (Q := fun k => (P k ∧ k < w.heap.size) ∨ w.heap.size + 2 ≤ k) fun k hk => hk.elim .inl (fun h => .inr (by have := HW2.out; omega)))
            generalize setR ⟨room1, files1, dir1, sure1, changes1, steps1, left1, plan1⟩ k (yd, ys) = T5 at *
            obtain ⟨room5, files5, dir5, sure5, changes5, steps5, left5, plan5⟩ := T5
            simp only at HR5 HO
            clear hR5 hb5 HST
            obtain ⟨x0, x1, x2, x3, x4, x5, x6, x7, y0, y1, y2, y3, y4, y5, y6, y7⟩ := HK0.out.fs
            obtain ⟨p0, p1, p2, p3, p4, p5, p6, p7, z0, z1, z2, z3, z4, z5, z6, z7⟩ := (show Blk _ (w.heap.size + 1) 33 [.int .i64 0, .slice none 0 0, .slice none 0 0, .slice none 0 0, .slice none 0 0, .int .i64 0, .int .i64 0, .slice none 0 0] from HK1.out).fs
            go_wp2_with fail
            have hkF := putFS_blk HK1.out (.int .i64 room5) (.slice fa5 files5.length fc5) (.slice da5 dir5.length dc5) (.slice sa5 sure5.length sc5) (.slice ca5 changes5.length cc5) (.int .i64 steps5) (.int .i64 left5) (.slice pa5 plan5.length pc5)
            obtain ⟨d0, d1, d2, d3, d4, d5, d6, d7, -⟩ := hkF.fs
            unfold putFS at d0 d1 d2 d3 d4 d5 d6 d7
            refine bodyPost_ret (v := .tuple #[.agg #[.int .i64 room5, .slice fa5 files5.length fc5, .slice da5 dir5.length dc5, .slice sa5 sure5.length sc5, .slice ca5 changes5.length cc5, .int .i64 steps5, .int .i64 left5, .slice pa5 plan5.length pc5], .int .i64 T3]) (by simp [results, Tryz.results52, go_sem, d0, d1, d2, d3, d4, d5, d6, d7]) rfl ⟨_, by rw [HO.out], ?_, ?_⟩
            · rw [HO.out]; exact (HR5.out.to fun k hk => putFS_other (show k ≠ w.heap.size + 1 by rcases hk with hk | hk <;> omega) _ _ _ _ _ _ _ _).mono fun _ hk => hk.imp (fun h => h.1) (fun h => by omega)
            · exact putFS_below HB0.out (by omega) _ _ _ _ _ _ _ _
  · rw [if_neg h2] at HO
    obtain ⟨x0, x1, x2, x3, x4, x5, x6, x7, y0, y1, y2, y3, y4, y5, y6, y7⟩ := HK0.out.fs
    obtain ⟨p0, p1, p2, p3, p4, p5, p6, p7, z0, z1, z2, z3, z4, z5, z6, z7⟩ := (show Blk _ (w.heap.size + 1) 33 [.int .i64 0, .slice none 0 0, .slice none 0 0, .slice none 0 0, .slice none 0 0, .int .i64 0, .int .i64 0, .slice none 0 0] from HK1.out).fs
    go_wp2_with fail
    have hkF := putFS_blk HK1.out (.int .i64 R.room) (.slice fa R.files.length fc) (.slice da R.dir.length dc) (.slice sa R.sure.length sc) (.slice ca R.changes.length cc) (.int .i64 R.steps) (.int .i64 R.left) (.slice pa R.plan.length pc)
    obtain ⟨d0, d1, d2, d3, d4, d5, d6, d7, -⟩ := hkF.fs
    unfold putFS at d0 d1 d2 d3 d4 d5 d6 d7
    refine bodyPost_ret (v := .tuple #[.agg #[.int .i64 R.room, .slice fa R.files.length fc, .slice da R.dir.length dc, .slice sa R.sure.length sc, .slice ca R.changes.length cc, .int .i64 R.steps, .int .i64 R.left, .slice pa R.plan.length pc], .int .i64 q2]) (by simp [results, Tryz.results52, go_sem, d0, d1, d2, d3, d4, d5, d6, d7]) rfl ⟨_, by rw [HO.out], ?_, ?_⟩
    · rw [HO.out]; exact ((HP.out.below HB0.out).to fun k hk => putFS_other (show k ≠ w.heap.size + 1 by have := hk.2; omega) _ _ _ _ _ _ _ _).mono fun _ hk => .inl hk.1
    · exact putFS_below HB0.out (by omega) _ _ _ _ _ _ _ _
end Go.Proofs.YtigbgajelkknbaaGreatDoor
namespace Go.Proofs.YtigbgajelkknbaaGreatDoor
open Go.RowKit
set_option maxRecDepth 100000

/-- A region that draws its order: its first n operations under a condition on the world; the rest waits for all of them. -/
theorem wp_region_tail_held {P : Program} {Q : Exit → Act → World → Prop} {id : Nat} {a : Act} {w : World} {l : List Oper} (S : World → Prop) (n : Nat) (hm : P.follows .mixedOrders = true) (hB : (tailB .any l.toArray n && Region.lexB .any (l.take n).toArray) = true)
    (h : wpAnyH P .any (l.take n).toArray (headQ Q fun a' w' => wpAny P .any l.toArray Q (l.length - n) (fullL l.toArray n) a' w') S n (Array.replicate n false) a w.drew) : (Code.region id l.toArray true).wp P Q a w := by
  simp only [Bool.and_eq_true] at hB
  obtain ⟨h1, h2⟩ := hB
  have ok := tailOk h1
  have hn : n ≤ l.length := by have := ok.le; simp at this; omega
  refine wp_region_any hm ?_
  have hlen : (l.take n).length = n := by simp [hn]
  have hx := wpAny_of_held _ _ _ _ h
  have key := wpAny_tail (P := P) (md := .any) (g := l.length - n) (Q := Q) ok (head := (l.take n).toArray) (fun i hi => by simp [hi]) n
    (List.replicate n false) (List.replicate l.length false) a { w with drawn := w.drawn + 1 } (by simp) (by simp; omega) ⟨by simp, fun j oj _ hl => (by rw [show (List.replicate l.length false).toArray = Array.replicate l.length false by simp, getD_replicate_false] at hl; cases hl), fun t _ ht => getD_in (by simpa using ht) (by rw [show (List.replicate l.length false).toArray = Array.replicate l.length false by simp, getD_replicate_false])⟩ (by simp) (by
      have e : (Array.replicate n false) = (List.replicate n false).toArray := by simp
      rw [e] at hx; exact hx)
  rw [show n + (l.length - n) = l.toArray.size by simp; omega] at key
  have e : (Array.replicate l.toArray.size false) = (List.replicate l.length false).toArray := by simp
  rw [e]; exact key
/-- Behind the head: the tail, one by one. -/
theorem head_done {P : Program} {Q : Exit → Act → World → Prop} {a : Act} {w : World} {l : List Oper} (n : Nat) (hB : Region.seqB .any l.toArray (l.length - n) n (fullL l.toArray n) = true) (h : wpList P l.toArray Q (l.drop n) a w) :
    headQ Q (fun a' w' => wpAny P .any l.toArray Q (l.length - n) (fullL l.toArray n) a' w') .normal a w := by
  have := wpAny_of_seq (P := P) (Q' := Q) (l.drop n) n (fullL l.toArray n) a w (fun j => by simp) (by simpa using hB) h
  rw [List.length_drop] at this
  exact this
/-- The names behind so many changes. -/
def preR (R : RSt) (i : Nat) : List RN := (R.changes.take i).foldl turnR R.sure
/-- What a crash keeps of a file. -/
def cutN (x : RN) (t : Int) : Int := if 0 < t then (if (x.1.size : Int) - x.2 < t then x.1.size else x.2 + t) else x.2
def cutR (R : RSt) (tails : List Int) (i : Nat) : RN := ((fileR R i).1.extract 0 (cutN (fileR R i) (tails.getD i 0)).toNat, cutN (fileR R i) (tails.getD i 0))
/-- Names, numbered. -/
def numb (l : List RN) : List RN := l.zipIdx.map fun x => (x.1.1, (x.2 : Int))
/-- How many changes are done. -/
def doneR (R : RSt) (dirs : Int) : Nat := (min (max dirs 0) R.changes.length).toNat
/-- What 'Crash' leaves. -/
def crashR (R : RSt) (dirs : Int) (tails : List Int) : RSt :=
  { emptyR with room := R.room, left := -1, files := (preR R (doneR R dirs)).map (fun d => cutR R tails d.2.toNat), dir := numb (preR R (doneR R dirs)), sure := numb (preR R (doneR R dirs)) }
theorem numb_length (l : List RN) : (numb l).length = l.length := by unfold numb; simp
theorem numb_take (l : List RN) {i : Nat} (hi : i < l.length) : numb (l.take (i + 1)) = numb (l.take i) ++ [((l[i]).1, (i : Int))] := by
  rw [List.take_succ_eq_append_getElem hi]
  unfold numb
  rw [List.zipIdx_append, List.map_append]
  simp [List.length_take, Nat.min_eq_left (Nat.le_of_lt hi)]
theorem preR_succ (R : RSt) {i : Nat} (hi : i < R.changes.length) : preR R (i + 1) = turnR (preR R i) R.changes[i] := by
  unfold preR; rw [List.take_succ_eq_append_getElem hi, List.foldl_append]; rfl
theorem preR_length (R : RSt) (hk : ROk R) : ∀ i, (preR R i).length ≤ R.sure.length + 2 * i
  | 0 => by unfold preR; simp
  | i + 1 => by
    have h0 := preR_length R hk i
    by_cases hi : i < R.changes.length
    · rw [preR_succ R hi]
      have h1 := turnR_length R.changes[i] (preR R i)
      have h2 := hk.each _ (List.getElem_mem hi)
      omega
    · have : preR R (i + 1) = preR R i := by unfold preR; rw [List.take_of_length_le (by omega), List.take_of_length_le (by omega)]
      rw [this]; omega
/-- An append of names to what the call owns, from any slice of them, as a step of the walk. -/
theorem wpList_append_rn {ops : Array Oper} {rest : List Oper} {o : Oper} {a : Act} {w w0 : World} {Q : Exit → Act → World → Prop} (hgd : o.guard = none) (s x : Operand)
    (ho : o.op = .call { callee := .builtin .append, args := #[s, x], argTypes := #[30, 30] })
    (base : Nat) (v u : Value) (ys p : List RN) (hs : a.eval s = v) (hown : OwnRN base w v ys) (hx : a.eval x = u) (hp : RNames w0 u p) (hb : Below w0.heap.size w0 w) (hle : ys.length + p.length ≤ 1000000) (hbase : base ≤ w.heap.size)
    (h : ∀ v' w', OwnRN base w' v' (ys ++ p) → w.grownBy w' v.ownBlock → wpList Tryz.prog ops Q rest (a.put o.dst v') w') : wpList Tryz.prog ops Q (o :: rest) a w := by
  obtain ⟨i0, hi, hz0, hz1, hz2⟩ := info_parts rnInfo
  rcases hp with ⟨rfl, rfl⟩ | ⟨pb, po, cap, rfl, h3, h4⟩
  · refine wpList_append_own_none hgd s x 30 ho base 133 i0 2 Tryz.underlying30 hi v ys.length (flatRN ys) hs hown hx ?_
    exact h v w (by rw [List.append_nil]; exact hown) ⟨rfl, rfl, rfl, Nat.le_refl _, fun _ _ _ => rfl⟩
  · refine wpList_append_own w hgd s x 30 ho base 133 i0 (.agg #[.string ⟨#[]⟩, .int .i64 0]) 2 24 Tryz.underlying30 hi hz0 hz1 hz2 rfl (by decide) v ys.length (flatRN ys) hs hown ⟨pb, po, none⟩ p.length cap (flatRN p) hx
      (flatRN_length p) (fun j u hu => ?_) (flatRN_one p) (by unfold maxLen; omega) (by omega) hbase ?_
    · obtain ⟨n, hn, hc⟩ := flatRN_get p j u hu
      obtain ⟨g1, g2⟩ := h4 _ n hn
      rw [Addr.add_mid, World.cell?_of_block (w := w0) (hb.block pb h3)]
      rcases hc with ⟨hm, rfl⟩ | ⟨hm, rfl⟩
      · rwa [show po + j / 2 * 2 = po + j by omega] at g1
      · rwa [show po + j / 2 * 2 + 1 = po + j by omega] at g2
    · intro v' w' h1 h2 _
      refine h v' w' ?_ h2
      unfold OwnRN
      rw [List.length_append, flatRN_append]; exact h1
/-- What is being left, as it lies in memory: three boxes, two rows of one's own, the names that are gone through. -/
structure Lp (w : World) (B : Nat) (room : Int) (box : List Value) (lv : Value) (D : List RN) (W : World) (fv dv : Value) (F N : List RN) : Prop where
  k0 : Blk W w.heap.size 33 box
  k1 : Blk W (w.heap.size + 1) 33 zeroC
  kc : Blk W (w.heap.size + 2) 33 [.int .i64 room, fv, dv, .slice none 0 0, .slice none 0 0, .int .i64 0, .int .i64 (-1), .slice none 0 0]
  f : OwnRF B W fv F
  d : OwnRN B W dv N
  l : RNames W lv D
  lo : ∀ j, lv.ownBlock = some j → j < B ∧ j ≠ w.heap.size + 2
  b : Below w.heap.size w W
  b3 : w.heap.size + 3 ≤ B
  sz : B ≤ W.heap.size
section
variable {w : World} {B : Nat} {room : Int} {box : List Value} {lv : Value} {D : List RN} {W W' : World} {fv dv v' : Value} {F N F' : List RN}
theorem Lp.below (h : Lp w B room box lv D W fv dv F N) (hb : Below W.heap.size W W') : Lp w B room box lv D W' fv dv F N :=
  ⟨(hb.block _ h.k0.lt).trans h.k0, (hb.block _ h.k1.lt).trans h.k1, (hb.block _ h.kc.lt).trans h.kc, ownsRow_to h.f fun k _ e _ => hb.block k (Array.getElem?_eq_some_iff.1 e).1, ownsRow_to h.d fun k _ e _ => hb.block k (Array.getElem?_eq_some_iff.1 e).1,
    h.l.below hb, h.lo, h.b.trans (hb.mono h.b.size), h.b3, Nat.le_trans h.sz hb.size⟩
theorem own_tag {base e size : Nat} {v : Value} {n : Nat} {xs : List Value} {k : Nat} (h : W.ownsRow base e size v n xs) (hk : v.ownBlock = some k) : ∃ cur, W.heap[k]? = some (.cells cur e (0, 0)) ∧ base ≤ k := by
  rcases h.2 with ⟨rfl, _⟩ | ⟨x, cap, cur, rfl, hb, hh, _⟩
  · cases hk
  · cases hk; exact ⟨cur, hh, hb⟩
theorem Lp.fileStored (h : Lp w B room box lv D W fv dv F N) (hg : W.grownBy W' fv.ownBlock) (ho : OwnRF B W' v' F') : Lp w B room box lv D (W'.setCell ⟨w.heap.size + 2, 1, none⟩ v') v' dv F' N := by
  have h3 := h.b3
  have hsz := h.sz
  have nf : ∀ k, k < B → fv.ownBlock ≠ some k := fun k hk e => by obtain ⟨_, _, hb⟩ := own_tag h.f e; omega
  have st : ∀ k, k < B → k ≠ w.heap.size + 2 → (W'.setCell ⟨w.heap.size + 2, 1, none⟩ v').heap[k]? = W.heap[k]? := fun k h1 h2 => by
    rw [heap_setCell_other _ _ k _ h2]; exact hg.block k (by omega) fun e => nf k h1 e.symm
  have hkc : Blk W' (w.heap.size + 2) 33 [.int .i64 room, fv, dv, .slice none 0 0, .slice none 0 0, .int .i64 0, .int .i64 (-1), .slice none 0 0] := (hg.block (w.heap.size + 2) (by omega) fun e => nf (w.heap.size + 2) (by omega) e.symm).trans h.kc
  refine ⟨(st _ (by omega) (by omega)).trans h.k0, (st _ (by omega) (by omega)).trans h.k1, hkc.set 1 v', ?_, ?_, ?_, h.lo, ?_, h.b3, ?_⟩
  · refine ownsRow_to ho fun k cur _ o => heap_setCell_other _ _ k _ ?_
    obtain ⟨_, _, hb⟩ := own_tag ho o
    show k ≠ w.heap.size + 2; omega
  · refine ownsRow_to h.d fun k cur e o => ?_
    obtain ⟨_, _, hb⟩ := own_tag h.d o
    rw [heap_setCell_other _ _ k _ (show k ≠ w.heap.size + 2 by omega)]
    refine hg.block k (Array.getElem?_eq_some_iff.1 e).1 fun e2 => ?_
    obtain ⟨cur2, e3, _⟩ := own_tag h.f e2.symm
    rw [e] at e3
    cases e3
  · exact h.l.to fun k hk => st k (h.lo k hk).1 (h.lo k hk).2
  · exact (h.b.grown hg h.b.size fun j hj => by obtain ⟨_, _, hb⟩ := own_tag h.f hj; omega).setCell (p := ⟨w.heap.size + 2, 1, none⟩) (by show w.heap.size ≤ w.heap.size + 2; omega) _
  · rw [World.size_setCell]; exact Nat.le_trans h.sz hg.size
theorem Lp.nameStored (h : Lp w B room box lv D W fv dv F N) (hg : W.grownBy W' dv.ownBlock) (ho : OwnRN B W' v' F') : Lp w B room box lv D (W'.setCell ⟨w.heap.size + 2, 2, none⟩ v') fv v' F F' := by
  have h3 := h.b3
  have hsz := h.sz
  have nf : ∀ k, k < B → dv.ownBlock ≠ some k := fun k hk e => by obtain ⟨_, _, hb⟩ := own_tag h.d e; omega
  have st : ∀ k, k < B → k ≠ w.heap.size + 2 → (W'.setCell ⟨w.heap.size + 2, 2, none⟩ v').heap[k]? = W.heap[k]? := fun k h1 h2 => by
    rw [heap_setCell_other _ _ k _ h2]; exact hg.block k (by omega) fun e => nf k h1 e.symm
  have hkc : Blk W' (w.heap.size + 2) 33 [.int .i64 room, fv, dv, .slice none 0 0, .slice none 0 0, .int .i64 0, .int .i64 (-1), .slice none 0 0] := (hg.block (w.heap.size + 2) (by omega) fun e => nf (w.heap.size + 2) (by omega) e.symm).trans h.kc
  refine ⟨(st _ (by omega) (by omega)).trans h.k0, (st _ (by omega) (by omega)).trans h.k1, hkc.set 2 v', ?_, ?_, ?_, h.lo, ?_, h.b3, ?_⟩
  · refine ownsRow_to h.f fun k cur e o => ?_
    obtain ⟨_, _, hb⟩ := own_tag h.f o
    rw [heap_setCell_other _ _ k _ (show k ≠ w.heap.size + 2 by omega)]
    refine hg.block k (Array.getElem?_eq_some_iff.1 e).1 fun e2 => ?_
    obtain ⟨cur2, e3, _⟩ := own_tag h.d e2.symm
    rw [e] at e3
    cases e3
  · refine ownsRow_to ho fun k cur _ o => heap_setCell_other _ _ k _ ?_
    obtain ⟨_, _, hb⟩ := own_tag ho o
    show k ≠ w.heap.size + 2; omega
  · exact h.l.to fun k hk => st k (h.lo k hk).1 (h.lo k hk).2
  · exact (h.b.grown hg h.b.size fun j hj => by obtain ⟨_, _, hb⟩ := own_tag h.d hj; omega).setCell (p := ⟨w.heap.size + 2, 2, none⟩) (by show w.heap.size ≤ w.heap.size + 2; omega) _
  · rw [World.size_setCell]; exact Nat.le_trans h.sz hg.size
end
end Go.Proofs.YtigbgajelkknbaaGreatDoor
namespace Go.Proofs.YtigbgajelkknbaaGreatDoor
open Go.RowKit
set_option maxRecDepth 100000

set_option maxRecDepth 100000 in
set_option maxHeartbeats 8000000 in
theorem refCrash_any {P : Nat → Prop} (v : Value) (R : RSt) (dirs : Int) (tv : Value) (tails : List Int) (w : World) (h : RFs P w v R) (hk : ROk R) (hs1 : R.sure.length < 1000) (hc1 : R.changes.length < 1000) (ht : RPlan w tv tails)
    (hdir : ∀ i, ∀ x ∈ preR R i, 0 ≤ x.2 ∧ x.2 < R.files.length) (hfl : ∀ f ∈ R.files, f.1.size ≤ 1000000 ∧ 0 ≤ f.2 ∧ f.2 ≤ f.1.size) :
    Calls Tryz.prog 61 #[v, .int .i64 dirs, tv] w fun e w' => ∃ v', e = .returned v' ∧ RFs (fun k => w.heap.size ≤ k) w' v' (crashR R dirs tails) ∧ Below w.heap.size w w' := by
  obtain ⟨fa, fc, da, dc, sa, sc, ca, cc, pa, pc, cvs, rfl, h1, h2, h3, h4, h5, h6, o1, o2, o3, o4, o5⟩ := h.parts
  obtain ⟨ta, tc, rfl⟩ := ht.slice
  have HCR := Lib.hid (show crashR R dirs tails = { emptyR with room := R.room, left := -1, files := (preR R (doneR R dirs)).map (fun d => cutR R tails d.2.toNat), dir := numb (preR R (doneR R dirs)), sure := numb (preR R (doneR R dirs)) } from rfl)
  have HFL := Lib.hid h1
  have HSU := Lib.hid h3
  have HCV := Lib.hid h4
  have HCH := Lib.hid h5
  have HT := Lib.hid ht
  have HFS := Lib.hid hfl
  have HDR := Lib.hid hdir
  have HLN := Lib.hid (fun i => preR_length R hk i)
  have HEA := Lib.hid hk.each
  have HB1 := Lib.hid (show R.sure.length < 1000 ∧ R.changes.length < 1000 ∧ R.files.length < 5000 from ⟨hs1, hc1, hk.files⟩)
  have hm1 : doneR R dirs ≤ R.changes.length := by unfold doneR; omega
  have hm2 : ∀ k : Nat, k < doneR R dirs ↔ (k : Int) < dirs ∧ (k : Int) < R.changes.length := fun k => by unfold doneR; omega
  generalize doneR R dirs = m at HCR hm1 hm2
  have HM1 := Lib.hid hm1
  have HM2 := Lib.hid hm2
  clear h1 h2 h3 h4 h5 h6 h hk o1 o2 o3 o4 o5 ht hdir hfl hs1 hc1 hm1 hm2
  go_enter Tryz.func61, Tryz.ntmps61
  go_upto_region 2 with fail
  refine wp_world fun wB hwB => ?_
  have hBB : Below w.heap.size w wB := by rw [hwB]; exact (((Below.refl _ _).alloc (Nat.le_refl _) _).alloc (by simp) _).alloc (by simp; omega) _
  have hK0 : Blk wB w.heap.size 33 [.int .i64 R.room, .slice fa R.files.length fc, .slice da R.dir.length dc, .slice sa R.sure.length sc, .slice ca R.changes.length cc, .int .i64 R.steps, .int .i64 R.left, .slice pa R.plan.length pc] := by rw [hwB]; exact ((Blk.new w 33 [.int .i64 R.room, .slice fa R.files.length fc, .slice da R.dir.length dc, .slice sa R.sure.length sc, .slice ca R.changes.length cc, .int .i64 R.steps, .int .i64 R.left, .slice pa R.plan.length pc]).alloc _).alloc _
  have hK1 : Blk wB (w.heap.size + 1) 33 zeroC := by
    rw [hwB]
    have := (Blk.new (w.alloc (.cells #[.int .i64 R.room, .slice fa R.files.length fc, .slice da R.dir.length dc, .slice sa R.sure.length sc, .slice ca R.changes.length cc, .int .i64 R.steps, .int .i64 R.left, .slice pa R.plan.length pc] 33)) 33 zeroC).alloc (.cells ([.int .i64 R.room, .slice none 0 0, .slice none 0 0, .slice none 0 0, .slice none 0 0, .int .i64 0, .int .i64 (-1), .slice none 0 0] : List Value).toArray 33)
    rw [World.size_alloc] at this
    exact this
  have hKC : Blk wB (w.heap.size + 2) 33 [.int .i64 R.room, .slice none 0 0, .slice none 0 0, .slice none 0 0, .slice none 0 0, .int .i64 0, .int .i64 (-1), .slice none 0 0] := by
    rw [hwB]
    have := Blk.new ((w.alloc (.cells #[.int .i64 R.room, .slice fa R.files.length fc, .slice da R.dir.length dc, .slice sa R.sure.length sc, .slice ca R.changes.length cc, .int .i64 R.steps, .int .i64 R.left, .slice pa R.plan.length pc] 33)).alloc (.cells zeroC.toArray 33)) 33 [.int .i64 R.room, .slice none 0 0, .slice none 0 0, .slice none 0 0, .slice none 0 0, .int .i64 0, .int .i64 (-1), .slice none 0 0]
    rw [World.size_alloc, World.size_alloc] at this
    exact this
  have x3 := hK0.cell (i := 3) rfl
  have HBB := Lib.hid hBB
  have HK0 := Lib.hid hK0
  have HK1 := Lib.hid hK1
  have HKC := Lib.hid hKC
  have hown0 : ∀ j, (Value.slice sa R.sure.length sc).ownBlock = some j → j < w.heap.size ∨ w.heap.size + 3 ≤ j := fun j hj => .inl (HSU.out.block j hj)
  have hsu0 : RNames wB (.slice sa R.sure.length sc) (preR R 0) := by have := HSU.out.below hBB; unfold preR; exact this
  clear hwB hBB hK0 hK1 hKC
  go_upto_region 3 with fail
  clear x3
  go_upto_block 0 with fail
  go_cut [8] (fun s8 wx => ∃ dv : Value, s8 = dv ∧ RNames wx dv (preR R m) ∧ (∀ j, dv.ownBlock = some j → j < w.heap.size ∨ w.heap.size + 3 ≤ j) ∧ Below wB.heap.size wB wx)
  case rest =>
    obtain ⟨dv, rfl, hdv, hown, hbr⟩ := hcut
    obtain ⟨la, lc, rfl⟩ := hdv.slice
    obtain ⟨D, hD⟩ : ∃ D, D = preR R m := ⟨_, rfl⟩
    have hdl : D.length < 4000 := by rw [hD]; have := HLN.out m; have := HB1.out; have := HM1.out; omega
    have hdd : ∀ x ∈ D, 0 ≤ x.2 ∧ x.2 < R.files.length := by rw [hD]; exact HDR.out m
    rw [← hD] at hdv hown HCR
    try rw [← hD]
    clear hD
    have HDL := Lib.hid hdl
    have HDD := Lib.hid hdd
    have hLp0 : Lp w wc.heap.size R.room [.int .i64 R.room, .slice fa R.files.length fc, .slice da R.dir.length dc, .slice sa R.sure.length sc, .slice ca R.changes.length cc, .int .i64 R.steps, .int .i64 R.left, .slice pa R.plan.length pc] (.slice la D.length lc) D wc (.slice none 0 0) (.slice none 0 0) [] [] :=
      ⟨(hbr.block _ HK0.out.lt).trans HK0.out, (hbr.block _ HK1.out.lt).trans HK1.out, (hbr.block _ HKC.out.lt).trans HKC.out, World.ownsRow_nil _ _ _ _, World.ownsRow_nil _ _ _ _, hdv,
        fun j hj => ⟨hdv.block j hj, by have := hown j hj; omega⟩, HBB.out.trans (hbr.mono HBB.out.size), by have := HKC.out.lt; have := hbr.size; omega, Nat.le_refl _⟩
    obtain ⟨B, hB⟩ : ∃ B, B = wc.heap.size := ⟨_, rfl⟩
    rw [← hB] at hLp0
    have hLp := hLp0
    have hB3 := hLp0.b3
    clear hdv hown hbr hdl hdd HK0 HK1 HKC hB hLp0
    go_wp2_with fail
    go_loopw [53] (fun s53 wr => ∃ (i : Nat) (fv dv : Value), i ≤ D.length ∧ s53 = .int .i64 i ∧ Lp w B R.room [.int .i64 R.room, .slice fa R.files.length fc, .slice da R.dir.length dc, .slice sa R.sure.length sc, .slice ca R.changes.length cc, .int .i64 R.steps, .int .i64 R.left, .slice pa R.plan.length pc] (.slice la D.length lc) D wr fv dv ((D.take i).map fun d => cutR R tails d.2.toNat) (numb (D.take i)))
      (fun s53 _ => D.length - (intOf s53).toNat)
    case atStart => exact ⟨0, _, _, Nat.zero_le _, rfl, hLp⟩
    case round =>
      clear hLp
      obtain ⟨i, fv, dv, hi, rfl, hLp⟩ := hrel
      obtain ⟨F, hF⟩ : ∃ F, F = (D.take i).map (fun d => cutR R tails d.2.toNat) := ⟨_, rfl⟩
      obtain ⟨N, hN⟩ : ∃ N, N = numb (D.take i) := ⟨_, rfl⟩
      rw [← hF, ← hN] at hLp
      obtain ⟨fg, fcap, rfl⟩ := hLp.f.slice
      obtain ⟨dg, dcap, rfl⟩ := hLp.d.slice
      have hFl : F.length = i ∧ N.length = i := by rw [hF, hN, numb_length, List.length_map, List.length_take]; omega
      by_cases hit : i < D.length
      · have li : (i : Int) < D.length := by omega
        have hmem := HDD.out D[i] (List.getElem_mem hit)
        have hnt := numb_take D hit
        have htk : (D.take (i + 1)).map (fun d => cutR R tails d.2.toNat) = (D.take i).map (fun d => cutR R tails d.2.toNat) ++ [cutR R tails D[i].2.toNat] := by rw [List.take_succ_eq_append_getElem hit, List.map_append]; rfl
        have hlr := hLp.l
        rcases hlr with ⟨_, h0⟩ | ⟨lb, lo, lcap, hlv, hlb, hlc⟩
        · rw [h0] at hit; simp at hit
        cases hlv
        obtain ⟨e1, e2⟩ := hlc i _ (List.getElem?_eq_getElem hit)
        have hdi := List.getElem?_eq_getElem hit
        generalize D[i] = x at hmem hnt htk e1 e2 hdi
        obtain ⟨xs, xf⟩ := x
        have HDI := Lib.hid hdi
        clear hdi
        simp only at hmem hnt htk e1 e2
        obtain ⟨k, rfl⟩ : ∃ k : Nat, xf = k := ⟨xf.toNat, by omega⟩
        rw [Int.toNat_natCast, ← hF] at htk
        rw [← hN] at hnt
        have hkl : k < R.files.length := by omega
        have lk : (k : Int) < R.files.length := by omega
        have hfg := fileR_get (R := R) hkl
        have hfs := HFS.out _ (List.mem_of_getElem? hfg)
        have hcu : cutR R tails k = ((fileR R k).1.extract 0 (cutN (fileR R k) (tails.getD k 0)).toNat, cutN (fileR R k) (tails.getD k 0)) := rfl
        generalize fileR R k = y at hfg hfs hcu
        obtain ⟨yd, ys⟩ := y
        simp only at hfs hcu
        obtain ⟨sn, rfl⟩ : ∃ sn : Nat, ys = sn := ⟨ys.toNat, by omega⟩
        rcases HFL.out.below hLp.b with ⟨_, h0⟩ | ⟨gb, go, gcap, hgv, hgb, hgc⟩
        · rw [h0] at hkl; simp at hkl
        obtain ⟨e3, e4⟩ := hgc k _ hfg
        simp only at e3 e4
        cases hgv
        have x1 := hLp.k0.cell (i := 1) rfl
        have HLP := Lib.hid hLp
        have HHL := Lib.hid (show lb < wr.heap.size ∧ gb < wr.heap.size from ⟨hlb, hgb⟩)
        have HTK := Lib.hid htk
        have HNT := Lib.hid hnt
        have HCU := Lib.hid hcu
        have HFZ := Lib.hid hfs
        have HFN := Lib.hid hFl
        clear hlb hlc hgb hgc hfg hmem hLp hnt htk hcu hfs hFl hF hN
        go_upto_region 14 with fail
        have HSK : Hid (∀ W, Below wr.heap.size wr W → W.cell? ⟨w.heap.size, 1, none⟩ = some (.slice (some ⟨gb, go, none⟩) R.files.length fc) ∧ W.cell? ⟨lb, lo + i * 2 + 1, none⟩ = some (.int .i64 k) ∧ W.cell? ⟨gb, go + k * 2, none⟩ = some (.string yd) ∧ W.cell? ⟨gb, go + k * 2 + 1, none⟩ = some (.int .i64 sn)) := fun W hW =>
          ⟨by rw [World.cell?_of_block (w := wr) (hW.block _ HLP.out.k0.lt)]; exact x1, by rw [World.cell?_of_block (w := wr) (hW.block _ HHL.out.1)]; exact e2, by rw [World.cell?_of_block (w := wr) (hW.block _ HHL.out.2)]; exact e3, by rw [World.cell?_of_block (w := wr) (hW.block _ HHL.out.2)]; exact e4⟩
        have hBD : Below wr.heap.size wr wr.drew := ⟨rfl, rfl, rfl, Nat.le_refl _, fun _ _ => rfl⟩
        clear x1 e1 e2 e3 e4
        have hSd : (fun W : World => W.cell? ⟨w.heap.size, 1, none⟩ = some (.slice (some ⟨gb, go, none⟩) R.files.length fc) ∧ W.cell? ⟨lb, lo + i * 2 + 1, none⟩ = some (.int .i64 k) ∧ W.cell? ⟨gb, go + k * 2, none⟩ = some (.string yd) ∧ W.cell? ⟨gb, go + k * 2 + 1, none⟩ = some (.int .i64 sn)) wr.drew := HSK.out _ hBD
        refine wp_region_tail_held (fun W => W.cell? ⟨w.heap.size, 1, none⟩ = some (.slice (some ⟨gb, go, none⟩) R.files.length fc) ∧ W.cell? ⟨lb, lo + i * 2 + 1, none⟩ = some (.int .i64 k) ∧ W.cell? ⟨gb, go + k * 2, none⟩ = some (.string yd) ∧ W.cell? ⟨gb, go + k * 2 + 1, none⟩ = some (.int .i64 sn)) 10 (by kernel_rfl) (by kernel_rfl) ?_
        simp only [List.take_succ_cons, List.take_zero]
        refine wpAnyH_take (i := 0) (v := ?_) rfl (by kernel_rfl) (by kernel_rfl) (by kernel_rfl) (fun _ _ _ h => h) (Or.inl ⟨by rfl, ?_⟩) (by assumption) ?_
        rotate_left 1
        · intro ww hSw; (try dsimp only at hSw); go_simp <;> with_reducible rfl
        try simp only [Act.put]
        refine wpAnyH_take (i := 1) (v := ?_) rfl (by kernel_rfl) (by kernel_rfl) (by kernel_rfl) (fun _ _ _ h => h) (Or.inl ⟨by rfl, ?_⟩) (by assumption) ?_
        rotate_left 1
        · intro ww hSw; (try dsimp only at hSw); go_simp <;> with_reducible rfl
        try simp only [Act.put]
        refine wpAnyH_take (i := 2) (v := ?_) rfl (by kernel_rfl) (by kernel_rfl) (by kernel_rfl) (fun _ _ _ h => h) (Or.inl ⟨by rfl, ?_⟩) (by assumption) ?_
        rotate_left 1
        · intro ww hSw; (try dsimp only at hSw); go_simp <;> with_reducible rfl
        try simp only [Act.put]
        refine wpAnyH_take (i := 3) (v := ?_) rfl (by kernel_rfl) (by kernel_rfl) (by kernel_rfl) (fun _ _ _ h => h) (Or.inl ⟨by rfl, ?_⟩) (by assumption) ?_
        rotate_left 1
        · intro ww hSw; (try dsimp only at hSw); go_simp <;> with_reducible rfl
        try simp only [Act.put]
        refine wpAnyH_take (i := 4) (v := ?_) rfl (by kernel_rfl) (by kernel_rfl) (by kernel_rfl) (fun _ _ _ h => h) (Or.inl ⟨by rfl, ?_⟩) (by assumption) ?_
        rotate_left 1
        · intro ww hSw; (try dsimp only at hSw); go_simp <;> with_reducible rfl
        try simp only [Act.put]
        refine wpAnyH_take (i := 5) (v := ?_) rfl (by kernel_rfl) (by kernel_rfl) (by kernel_rfl) (fun _ _ _ h => h) (Or.inl ⟨by rfl, ?_⟩) (by assumption) ?_
        rotate_left 1
        · intro ww hSw; (try dsimp only at hSw); go_simp <;> with_reducible rfl
        try simp only [Act.put]
        refine wpAnyH_take (i := 6) (v := ?_) rfl (by kernel_rfl) (by kernel_rfl) (by kernel_rfl) (fun _ _ _ h => h) (Or.inl ⟨by rfl, ?_⟩) (by assumption) ?_
        rotate_left 1
        · intro ww hSw; (try dsimp only at hSw); go_simp <;> with_reducible rfl
        try simp only [Act.put]
        refine wpAnyH_take (i := 7) (v := ?_) rfl (by kernel_rfl) (by kernel_rfl) (by kernel_rfl) (fun _ _ _ h => h) (Or.inl ⟨by rfl, ?_⟩) (by assumption) ?_
        rotate_left 1
        · intro ww hSw; (try dsimp only at hSw); go_simp <;> with_reducible rfl
        try simp only [Act.put]
        refine wpAnyH_take (i := 8) (v := ?_) rfl (by kernel_rfl) (by kernel_rfl) (by kernel_rfl) (fun _ _ _ h => h) (Or.inl ⟨by rfl, ?_⟩) (by assumption) ?_
        rotate_left 1
        · intro ww hSw; (try dsimp only at hSw); go_simp <;> with_reducible rfl
        try simp only [Act.put]
        refine wpAnyH_ready (rs := [9]) (by kernel_rfl) (by simp) ?_
        refine AllReadyH.cons rfl (fun K hK => ?_) AllReadyH.nil
        go_simp
        refine hK.out _ _ (HSK.out _ (hBD.alloc (Nat.le_refl _) _)) (fun hHeld => ?_)
        try simp only [Act.put, List.setIfInBounds_toArray, List.set_cons_zero, List.set_cons_succ]
        clear hK hHeld hSd
        refine wpAnyH_done (by kernel_rfl) ?_ _
        refine head_done 10 (by kernel_rfl) ?_
        simp only [List.drop_succ_cons, List.drop_zero]

        go_upto_region 15 with fail
        refine wp_world fun w1 hw1 => ?_
        have hb1 : Below wr.heap.size wr w1 := by rw [hw1]; exact ((Below.refl _ _).alloc (Nat.le_refl _) _).drew
        have hx : Blk w1 wr.heap.size 135 [.string yd, .int .i64 sn] := by rw [hw1]; exact (Blk.new wr 135 [.string yd, .int .i64 sn]).drew
        have HL1 := Lib.hid (HLP.out.below hb1)
        have HX := Lib.hid hx
        have HE2 := Lib.hid (HSK.out w1 hb1).2.1
        clear hw1 hb1 HLP HSK hBD
        have xX1 := hx.cell (i := 1) rfl
        clear hx
        go_upto_region 16 with fail
        clear xX1
        obtain ⟨t, hteq⟩ : ∃ t, t = tails.getD k 0 := ⟨_, rfl⟩
        rw [← hteq] at HCU
        have HTE := Lib.hid hteq
        have HTB := Lib.hid (fun W (hW : Below w.heap.size w W) => show (tails.length ≤ k ∧ t = 0) ∨ ∃ tb tp, ta = some ⟨tb, tp, none⟩ ∧ k < tails.length ∧ W.cell? ⟨tb, tp + k, none⟩ = some (.int .i64 t) by
          by_cases hkt : k < tails.length
          · rcases HT.out with ⟨_, h0⟩ | ⟨_, _, h0⟩ | ⟨tb, tp, cap, hv, _, htb, htr⟩
            · rw [h0] at hkt; simp at hkt
            · rw [h0] at hkt; simp at hkt
            · refine .inr ⟨tb, tp, ?_, hkt, ?_⟩
              · injection hv
              · rw [World.cell?_of_block (w := w) (hW.block tb htb)]
                refine htr k _ ?_
                rw [hteq, List.getElem?_map, List.getD_eq_getElem?_getD, List.getElem?_eq_getElem hkt]; rfl
          · exact .inl ⟨by omega, by rw [hteq, List.getD_eq_getElem?_getD, List.getElem?_eq_none (by omega)]; rfl⟩)
        clear hteq
        obtain ⟨bb, hbb⟩ : ∃ bb : Bool, bb = decide (0 < t) := ⟨_, rfl⟩
        have HBO := Lib.hid hbb
        clear hbb
        go_cut [85] (fun s85 wx => s85 = .bool bb ∧ w1 = wx)
        case first =>
          have e2 := HE2.out
          rcases HTB.out w1 HL1.out.b with ⟨hkt, ht0⟩ | ⟨tb, tp, hta, hkt, ct⟩
          · have lkt : ¬ (k : Int) < tails.length := by omega
            go_wp2_with fail
            go_meet
            exact ⟨by rw [HBO.out, ht0]; rfl, rfl⟩
          · subst hta
            have lkt : (k : Int) < tails.length := by omega
            by_cases hpos : 0 < t
            · go_wp2_with fail
              go_meet
              exact ⟨by rw [HBO.out, decide_eq_true (by omega)], rfl⟩
            · go_wp2_with fail
              go_meet
              exact ⟨by rw [HBO.out, decide_eq_false (by omega)], rfl⟩
        case rest =>
          obtain ⟨rfl, hwc⟩ := hcut
          subst hwc
          obtain ⟨nn, hnn⟩ : ∃ nn : Nat, cutN (yd, (sn : Int)) t = nn := ⟨(cutN (yd, (sn : Int)) t).toNat, by have := HFZ.out; unfold cutN; simp only; split <;> (try split) <;> omega⟩
          have hnle : nn ≤ yd.size := by have := HFZ.out; unfold cutN at hnn; simp only at hnn; split at hnn <;> (try split at hnn) <;> omega
          rw [hnn, Int.toNat_natCast] at HCU
          have HNN := Lib.hid hnn
          have HNL := Lib.hid hnle
          clear hnn hnle
          go_upto_if 85 with fail
          go_cut [13] (fun s13 wx => s13 = .int .i64 nn ∧ Below w1.heap.size w1 wx)
          case first =>
            cases bb with
            | true =>
              have hpos : 0 < t := of_decide_eq_true HBO.out.symm
              rcases HTB.out w1 HL1.out.b with ⟨_, ht0⟩ | ⟨tb, tp, hta, hkt, ct⟩
              · omega
              subst hta
              have lkt : (k : Int) < tails.length := by omega
              have e2 := HE2.out
              have xX0 := HX.out.cell (i := 0) rfl
              have xX1 := HX.out.cell (i := 1) rfl
              have hz : yd.size ≤ 1000000 ∧ 0 ≤ (sn : Int) ∧ (sn : Int) ≤ yd.size := HFZ.out
              have hsub : wrap64 ((yd.size : Int) - sn) = (yd.size : Int) - sn := by unfold wrap64; omega
              have hcn : cutN (yd, (sn : Int)) t = if (yd.size : Int) - sn < t then (yd.size : Int) else sn + t := if_pos hpos
              rw [HNN.out] at hcn
              go_upto_region 17 with fail
              go_quiet (fail)
              have hbq := Below.drewN (Below.refl w1.heap.size w1) nq
              have HBQ := Lib.hid hbq
              have HHC := Lib.hid hcn
              clear hbq hcn
              by_cases hbig : (yd.size : Int) - sn < t
              · have hcn := HHC.out
                rw [if_pos hbig] at hcn
                have HHC2 := Lib.hid hcn
                clear hcn HHC
                go_wp2_with fail
                go_meet
                exact ⟨by rw [HHC2.out], HBQ.out⟩
              · have hcn := HHC.out
                rw [if_neg hbig] at hcn
                have hadd : wrap64 ((sn : Int) + t) = (sn : Int) + t := by unfold wrap64; omega
                have HHC2 := Lib.hid hcn
                clear hcn HHC
                go_wp2_with fail
                go_meet
                exact ⟨by rw [HHC2.out], HBQ.out⟩
            | false =>
              have hpos : ¬ 0 < t := of_decide_eq_false HBO.out.symm
              have hcn : cutN (yd, (sn : Int)) t = sn := if_neg hpos
              rw [HNN.out] at hcn
              have HHC2 := Lib.hid hcn
              clear hcn
              go_wp2_with fail
              go_meet
              exact ⟨by rw [HHC2.out], Below.refl _ _⟩
          case rest =>
            obtain ⟨rfl, hbx⟩ := hcut
            have HL2 := Lib.hid (HL1.out.below hbx)
            have HX2 := Lib.hid (show Blk wc wr.heap.size 135 [.string yd, .int .i64 sn] from (hbx.block _ HX.out.lt).trans HX.out)
            clear hbx HL1 HX HE2 HTB HTE
            go_upto_region 20 with fail
            have lp : nn ≤ yd.size := HNL.out
            have hBD : Below wc.heap.size wc wc.drew := ⟨rfl, rfl, rfl, Nat.le_refl _, fun _ _ => rfl⟩
            have HSK : Hid (∀ W, Below wc.heap.size wc W → W.cell? ⟨w.heap.size + 2, 1, none⟩ = some (.slice fg F.length fcap) ∧ W.cell? ⟨wr.heap.size, 0, none⟩ = some (.string yd)) := fun W hW =>
              ⟨(show Blk W (w.heap.size + 2) 33 _ from (hW.block _ HL2.out.kc.lt).trans HL2.out.kc).cell rfl, (show Blk W wr.heap.size 135 _ from (hW.block _ HX2.out.lt).trans HX2.out).cell rfl⟩
            have hSd : (fun W : World => W.cell? ⟨w.heap.size + 2, 1, none⟩ = some (.slice fg F.length fcap) ∧ W.cell? ⟨wr.heap.size, 0, none⟩ = some (.string yd)) wc.drew := HSK.out _ hBD
            refine wp_region_tail_held (fun W => W.cell? ⟨w.heap.size + 2, 1, none⟩ = some (.slice fg F.length fcap) ∧ W.cell? ⟨wr.heap.size, 0, none⟩ = some (.string yd)) 9 (by kernel_rfl) (by kernel_rfl) ?_
            simp only [List.take_succ_cons, List.take_zero]
            refine wpAnyH_take (i := 0) (v := ?_) rfl (by kernel_rfl) (by kernel_rfl) (by kernel_rfl) (fun _ _ _ h => h) (Or.inl ⟨by rfl, ?_⟩) (by assumption) ?_
            rotate_left 1
            · intro ww hSw; (try dsimp only at hSw); go_simp <;> with_reducible rfl
            try simp only [Act.put]
            refine wpAnyH_take (i := 1) (v := ?_) rfl (by kernel_rfl) (by kernel_rfl) (by kernel_rfl) (fun _ _ _ h => h) (Or.inl ⟨by rfl, ?_⟩) (by assumption) ?_
            rotate_left 1
            · intro ww hSw; (try dsimp only at hSw); go_simp <;> with_reducible rfl
            try simp only [Act.put]
            refine wpAnyH_take (i := 2) (v := ?_) rfl (by kernel_rfl) (by kernel_rfl) (by kernel_rfl) (fun _ _ _ h => h) (Or.inl ⟨by rfl, ?_⟩) (by assumption) ?_
            rotate_left 1
            · intro ww hSw; (try dsimp only at hSw); go_simp <;> with_reducible rfl
            try simp only [Act.put]
            refine wpAnyH_take (i := 3) (v := ?_) rfl (by kernel_rfl) (by kernel_rfl) (by kernel_rfl) (fun _ _ _ h => h) (Or.inl ⟨by rfl, ?_⟩) (by assumption) ?_
            rotate_left 1
            · intro ww hSw; (try dsimp only at hSw); go_simp <;> with_reducible rfl
            try simp only [Act.put]
            refine wpAnyH_take (i := 4) (v := ?_) rfl (by kernel_rfl) (by kernel_rfl) (by kernel_rfl) (fun _ _ _ h => h) (Or.inl ⟨by rfl, ?_⟩) (by assumption) ?_
            rotate_left 1
            · intro ww hSw; (try dsimp only at hSw); go_simp <;> with_reducible rfl
            try simp only [Act.put]
            refine wpAnyH_take (i := 5) (v := ?_) rfl (by kernel_rfl) (by kernel_rfl) (by kernel_rfl) (fun _ _ _ h => h) (Or.inl ⟨by rfl, ?_⟩) (by assumption) ?_
            rotate_left 1
            · intro ww hSw; (try dsimp only at hSw); go_simp <;> with_reducible rfl
            try simp only [Act.put]
            refine wpAnyH_take (i := 6) (v := ?_) rfl (by kernel_rfl) (by kernel_rfl) (by kernel_rfl) (fun _ _ _ h => h) (Or.inl ⟨by rfl, ?_⟩) (by assumption) ?_
            rotate_left 1
            · intro ww hSw; (try dsimp only at hSw); go_simp <;> with_reducible rfl
            try simp only [Act.put]
            refine wpAnyH_take (i := 7) (v := ?_) rfl (by kernel_rfl) (by kernel_rfl) (by kernel_rfl) (fun _ _ _ h => h) (Or.inl ⟨by rfl, ?_⟩) (by assumption) ?_
            rotate_left 1
            · intro ww hSw; (try dsimp only at hSw); go_simp <;> with_reducible rfl
            try simp only [Act.put]
            refine wpAnyH_ready (rs := [8]) (by kernel_rfl) (by simp) ?_
            refine AllReadyH.cons rfl (fun K hK => ?_) AllReadyH.nil
            go_simp
            refine hK.out _ _ (HSK.out _ (hBD.alloc (Nat.le_refl _) _)) (fun hHeld => ?_)
            try simp only [Act.put, List.setIfInBounds_toArray, List.set_cons_zero, List.set_cons_succ]
            clear hK hHeld hSd
            refine wpAnyH_done (by kernel_rfl) ?_ _
            refine head_done 9 (by kernel_rfl) ?_
            simp only [List.drop_succ_cons, List.drop_zero]

            obtain ⟨wd, hwd⟩ : ∃ x, x = (wc.alloc (.cells #[.string (yd.extract 0 nn), .int .i64 nn] 135)).drew := ⟨_, rfl⟩
            rw [← hwd]
            have hbd : Below wc.heap.size wc wd := by rw [hwd]; exact ((Below.refl _ _).alloc (Nat.le_refl _) _).drew
            have hkn : Blk wd wc.heap.size 135 [.string (yd.extract 0 nn), .int .i64 nn] := by rw [hwd]; exact (Blk.new wc 135 [.string (yd.extract 0 nn), .int .i64 nn]).drew
            have HL3 := Lib.hid (HL2.out.below hbd)
            have HN3 : Hid (RNames wd (.slice (some ⟨wc.heap.size, 0, none⟩) 1 1) [(yd.extract 0 nn, (nn : Int))]) :=
              .inr ⟨wc.heap.size, 0, 1, rfl, hkn.lt, fun j n hj => by
                match j with
                | 0 => cases hj; exact ⟨hkn.cell rfl, hkn.cell rfl⟩
                | j + 1 => cases hj⟩
            clear hwd hbd hkn HL2 HX2 HSK hBD lp
            go_wp2_with (with_reducible refine wpList_append_rf rfl (.tmp 115) (.tmp 122) rfl B (.slice fg F.length fcap) (.slice (some ⟨wc.heap.size, 0, none⟩) 1 1) F [(yd.extract 0 nn, (nn : Int))] ?_ HL3.out.f ?_ HN3.out ?_ ?_ ?_ ?_)
            case refine_1 => rfl
            case refine_2 => rfl
            case refine_3 => exact Below.refl _ _
            case refine_4 => have := HFN.out; have := HDL.out; simp; omega
            case refine_5 => exact HL3.out.sz
            intro v3 w3 ho3 hg3
            rw [← HCU.out, ← HTK.out] at ho3
            obtain ⟨F2, hF2⟩ : ∃ F2, F2 = (D.take (i + 1)).map (fun d => cutR R tails d.2.toNat) := ⟨_, rfl⟩
            rw [← hF2] at ho3
            obtain ⟨g3, q3, rfl⟩ := OwnRF.slice ho3
            have nf : (Value.slice fg F.length fcap).ownBlock ≠ some (w.heap.size + 2) := fun e => by obtain ⟨_, _, hb⟩ := own_tag HL3.out.f e; omega
            have kc3 := (show Blk w3 (w.heap.size + 2) 33 _ from (hg3.block _ HL3.out.kc.lt (fun e => nf e.symm)).trans HL3.out.kc)
            have f1 := kc3.frozen 1
            have d1 := kc3.cell (i := 1) rfl
            have HL4 := Lib.hid (HL3.out.fileStored hg3 ho3)
            have HF2 := Lib.hid hF2
            clear nf kc3 hg3 ho3 HL3 HN3 hF2
            go_upto_region 21 with fail
            refine wp_world fun w4 hw4 => ?_
            have hL4 : Lp w B R.room [.int .i64 R.room, .slice (some ⟨gb, go, none⟩) R.files.length fc, .slice da R.dir.length dc, .slice sa R.sure.length sc, .slice ca R.changes.length cc, .int .i64 R.steps, .int .i64 R.left, .slice pa R.plan.length pc] (.slice (some ⟨lb, lo, none⟩) D.length lc) D w4 (.slice g3 F2.length q3) (.slice dg N.length dcap) F2 N := by rw [hw4]; exact HL4.out
            clear hw4 HL4 f1 d1
            have e5 : w4.cell? ⟨lb, lo + i * 2, none⟩ = some (.string xs) ∧ lb < w4.heap.size := by
              rcases hL4.l with ⟨h0, _⟩ | ⟨b9, o9, c9, h9, hb9, hc9⟩
              · cases h0
              · cases h9; exact ⟨(hc9 i _ HDI.out).1, hb9⟩
            have hBD : Below w4.heap.size w4 w4.drew := ⟨rfl, rfl, rfl, Nat.le_refl _, fun _ _ => rfl⟩
            have HL4 := Lib.hid hL4
            have HSK : Hid (∀ W, Below w4.heap.size w4 W → W.cell? ⟨w.heap.size + 2, 2, none⟩ = some (.slice dg N.length dcap) ∧ W.cell? ⟨lb, lo + i * 2, none⟩ = some (.string xs)) := fun W hW =>
              ⟨(show Blk W (w.heap.size + 2) 33 _ from (hW.block _ HL4.out.kc.lt).trans HL4.out.kc).cell rfl, by rw [World.cell?_of_block (w := w4) (hW.block _ e5.2)]; exact e5.1⟩
            clear hL4 e5
            have hSd : (fun W : World => W.cell? ⟨w.heap.size + 2, 2, none⟩ = some (.slice dg N.length dcap) ∧ W.cell? ⟨lb, lo + i * 2, none⟩ = some (.string xs)) w4.drew := HSK.out _ hBD
            refine wp_region_tail_held (fun W => W.cell? ⟨w.heap.size + 2, 2, none⟩ = some (.slice dg N.length dcap) ∧ W.cell? ⟨lb, lo + i * 2, none⟩ = some (.string xs)) 10 (by kernel_rfl) (by kernel_rfl) ?_
            simp only [List.take_succ_cons, List.take_zero]
            refine wpAnyH_take (i := 0) (v := ?_) rfl (by kernel_rfl) (by kernel_rfl) (by kernel_rfl) (fun _ _ _ h => h) (Or.inl ⟨by rfl, ?_⟩) (by assumption) ?_
            rotate_left 1
            · intro ww hSw; (try dsimp only at hSw); go_simp <;> with_reducible rfl
            try simp only [Act.put]
            refine wpAnyH_take (i := 1) (v := ?_) rfl (by kernel_rfl) (by kernel_rfl) (by kernel_rfl) (fun _ _ _ h => h) (Or.inl ⟨by rfl, ?_⟩) (by assumption) ?_
            rotate_left 1
            · intro ww hSw; (try dsimp only at hSw); go_simp <;> with_reducible rfl
            try simp only [Act.put]
            refine wpAnyH_take (i := 2) (v := ?_) rfl (by kernel_rfl) (by kernel_rfl) (by kernel_rfl) (fun _ _ _ h => h) (Or.inl ⟨by rfl, ?_⟩) (by assumption) ?_
            rotate_left 1
            · intro ww hSw; (try dsimp only at hSw); go_simp <;> with_reducible rfl
            try simp only [Act.put]
            refine wpAnyH_take (i := 3) (v := ?_) rfl (by kernel_rfl) (by kernel_rfl) (by kernel_rfl) (fun _ _ _ h => h) (Or.inl ⟨by rfl, ?_⟩) (by assumption) ?_
            rotate_left 1
            · intro ww hSw; (try dsimp only at hSw); go_simp <;> with_reducible rfl
            try simp only [Act.put]
            refine wpAnyH_take (i := 4) (v := ?_) rfl (by kernel_rfl) (by kernel_rfl) (by kernel_rfl) (fun _ _ _ h => h) (Or.inl ⟨by rfl, ?_⟩) (by assumption) ?_
            rotate_left 1
            · intro ww hSw; (try dsimp only at hSw); go_simp <;> with_reducible rfl
            try simp only [Act.put]
            refine wpAnyH_take (i := 5) (v := ?_) rfl (by kernel_rfl) (by kernel_rfl) (by kernel_rfl) (fun _ _ _ h => h) (Or.inl ⟨by rfl, ?_⟩) (by assumption) ?_
            rotate_left 1
            · intro ww hSw; (try dsimp only at hSw); go_simp <;> with_reducible rfl
            try simp only [Act.put]
            refine wpAnyH_take (i := 6) (v := ?_) rfl (by kernel_rfl) (by kernel_rfl) (by kernel_rfl) (fun _ _ _ h => h) (Or.inl ⟨by rfl, ?_⟩) (by assumption) ?_
            rotate_left 1
            · intro ww hSw; (try dsimp only at hSw); go_simp <;> with_reducible rfl
            try simp only [Act.put]
            refine wpAnyH_take (i := 7) (v := ?_) rfl (by kernel_rfl) (by kernel_rfl) (by kernel_rfl) (fun _ _ _ h => h) (Or.inl ⟨by rfl, ?_⟩) (by assumption) ?_
            rotate_left 1
            · intro ww hSw; (try dsimp only at hSw); go_simp <;> with_reducible rfl
            try simp only [Act.put]
            refine wpAnyH_take (i := 8) (v := ?_) rfl (by kernel_rfl) (by kernel_rfl) (by kernel_rfl) (fun _ _ _ h => h) (Or.inl ⟨by rfl, ?_⟩) (by assumption) ?_
            rotate_left 1
            · intro ww hSw; (try dsimp only at hSw); go_simp <;> with_reducible rfl
            try simp only [Act.put]
            refine wpAnyH_ready (rs := [9]) (by kernel_rfl) (by simp) ?_
            refine AllReadyH.cons rfl (fun K hK => ?_) AllReadyH.nil
            go_simp
            refine hK.out _ _ (HSK.out _ (hBD.alloc (Nat.le_refl _) _)) (fun hHeld => ?_)
            try simp only [Act.put, List.setIfInBounds_toArray, List.set_cons_zero, List.set_cons_succ]
            clear hK hHeld hSd
            refine wpAnyH_done (by kernel_rfl) ?_ _
            refine head_done 10 (by kernel_rfl) ?_
            simp only [List.drop_succ_cons, List.drop_zero]

            obtain ⟨wf, hwf⟩ : ∃ x, x = (w4.alloc (.cells #[.string xs, .int .i64 i] 133)).drew := ⟨_, rfl⟩
            rw [← hwf]
            have hbf : Below w4.heap.size w4 wf := by rw [hwf]; exact ((Below.refl _ _).alloc (Nat.le_refl _) _).drew
            have hkn : Blk wf w4.heap.size 133 [.string xs, .int .i64 i] := by rw [hwf]; exact (Blk.new w4 133 [.string xs, .int .i64 i]).drew
            have HL5 := Lib.hid (HL4.out.below hbf)
            have HN5 : Hid (RNames wf (.slice (some ⟨w4.heap.size, 0, none⟩) 1 1) [(xs, (i : Int))]) :=
              .inr ⟨w4.heap.size, 0, 1, rfl, hkn.lt, fun j n hj => by
                match j with
                | 0 => cases hj; exact ⟨hkn.cell rfl, hkn.cell rfl⟩
                | j + 1 => cases hj⟩
            clear hwf hbf hkn HL4 HSK hBD
            go_wp2_with (with_reducible refine wpList_append_rn rfl (.tmp 126) (.tmp 134) rfl B (.slice dg N.length dcap) (.slice (some ⟨w4.heap.size, 0, none⟩) 1 1) N [(xs, (i : Int))] ?_ HL5.out.d ?_ HN5.out ?_ ?_ ?_ ?_)
            case refine_1 => rfl
            case refine_2 => rfl
            case refine_3 => exact Below.refl _ _
            case refine_4 => have := HFN.out; have := HDL.out; simp; omega
            case refine_5 => exact HL5.out.sz
            intro v5 w5 ho5 hg5
            rw [← HNT.out] at ho5
            obtain ⟨N2, hN2⟩ : ∃ N2, N2 = numb (D.take (i + 1)) := ⟨_, rfl⟩
            rw [← hN2] at ho5
            obtain ⟨g5, q5, rfl⟩ := OwnRN.slice ho5
            have nf : (Value.slice dg N.length dcap).ownBlock ≠ some (w.heap.size + 2) := fun e => by obtain ⟨_, _, hb⟩ := own_tag HL5.out.d e; omega
            have kc5 := (show Blk w5 (w.heap.size + 2) 33 _ from (hg5.block _ HL5.out.kc.lt (fun e => nf e.symm)).trans HL5.out.kc)
            have f2 := kc5.frozen 2
            have d2 := kc5.cell (i := 2) rfl
            have HL6 := Lib.hid (HL5.out.nameStored hg5 ho5)
            have HN2 := Lib.hid hN2
            have hb9 := HDL.out
            clear nf kc5 hg5 ho5 HL5 HN5 hN2
            go_wp2_with fail
            go_roundw
            case rel => exact ⟨i + 1, _, _, by omega, by go_num, by rw [← HF2.out, ← HN2.out]; exact HL6.out⟩
            case measure => simp [intOf]; omega
      · have li : ¬ ((i : Int) < D.length) := by omega
        clear hFl
        rw [List.take_of_length_le (show D.length ≤ i by omega)] at hF hN
        have k2 := hLp.kc.cell (i := 2) rfl
        have k3 := hLp.kc.cell (i := 3) rfl
        have f3 := hLp.kc.frozen 3
        have HLP := Lib.hid hLp
        have HFF := Lib.hid hF
        have HNN := Lib.hid hN
        clear hLp hF hN
        go_upto_region 24 with fail
        refine wp_world fun w7 hw7 => ?_
        have hkc : Blk w7 (w.heap.size + 2) 33 [.int .i64 R.room, .slice fg F.length fcap, .slice dg N.length dcap, .slice dg N.length dcap, .slice none 0 0, .int .i64 0, .int .i64 (-1), .slice none 0 0] := by rw [hw7]; exact HLP.out.kc.set 3 _
        have hk1 : Blk w7 (w.heap.size + 1) 33 zeroC := by rw [hw7]; exact HLP.out.k1.set_other (a := ⟨w.heap.size + 2, 3, none⟩) (show w.heap.size + 1 ≠ w.heap.size + 2 by omega) _
        have hb7 : Below w.heap.size w w7 := by rw [hw7]; exact HLP.out.b.setCell (p := ⟨w.heap.size + 2, 3, none⟩) (show w.heap.size ≤ w.heap.size + 2 by omega) _
        have hf7 : RNames w7 (.slice fg F.length fcap) F := by
          rw [hw7]; refine (OwnRF.names HLP.out.f).to fun k hk => heap_setCell_other _ _ k _ ?_
          obtain ⟨_, _, hb⟩ := own_tag HLP.out.f hk
          show k ≠ w.heap.size + 2; omega
        have hd7 : RNames w7 (.slice dg N.length dcap) N := by
          rw [hw7]; refine (OwnRN.names HLP.out.d).to fun k hk => heap_setCell_other _ _ k _ ?_
          obtain ⟨_, _, hb⟩ := own_tag HLP.out.d hk
          show k ≠ w.heap.size + 2; omega
        have HOW : Hid (∀ k, (Value.slice fg F.length fcap).ownBlock = some k ∨ (Value.slice dg N.length dcap).ownBlock = some k → w.heap.size + 3 ≤ k) := fun k hk => by
          rcases hk with hk | hk
          · obtain ⟨_, _, hb⟩ := own_tag HLP.out.f hk; omega
          · obtain ⟨_, _, hb⟩ := own_tag HLP.out.d hk; omega
        clear hw7 k2 k3 f3 HLP
        have HF7 := Lib.hid hf7
        have HD7 := Lib.hid hd7
        have HB7 := Lib.hid hb7
        have HK1 := Lib.hid hk1
        obtain ⟨x0, x1, x2, x3, x4, x5, x6, x7, y0, y1, y2, y3, y4, y5, y6, y7⟩ := hkc.fs
        obtain ⟨p0, p1, p2, p3, p4, p5, p6, p7, z0, z1, z2, z3, z4, z5, z6, z7⟩ := (show Blk _ (w.heap.size + 1) 33 [.int .i64 0, .slice none 0 0, .slice none 0 0, .slice none 0 0, .slice none 0 0, .int .i64 0, .int .i64 0, .slice none 0 0] from hk1).fs
        clear hf7 hd7 hb7 hk1 hkc
        go_wp2_with fail
        have hkF := putFS_blk HK1.out (.int .i64 R.room) (.slice fg F.length fcap) (.slice dg N.length dcap) (.slice dg N.length dcap) (.slice none 0 0) (.int .i64 0) (.int .i64 (-1)) (.slice none 0 0)
        obtain ⟨d0, d1, d2, d3, d4, d5, d6, d7, -⟩ := hkF.fs
        unfold putFS at d0 d1 d2 d3 d4 d5 d6 d7
        refine bodyPost_ret (v := .agg #[.int .i64 R.room, .slice fg F.length fcap, .slice dg N.length dcap, .slice dg N.length dcap, .slice none 0 0, .int .i64 0, .int .i64 (-1), .slice none 0 0]) (by simp [results, Tryz.results61, go_sem, d0, d1, d2, d3, d4, d5, d6, d7]) rfl ⟨_, rfl, ?_, ?_⟩
        · rw [HCR.out, ← HFF.out, ← HNN.out]
          refine RFs.mk (R := { emptyR with room := R.room, left := -1, files := F, dir := N, sure := N }) (cvs := []) (HF7.out.to fun k hk => putFS_other (show k ≠ w.heap.size + 1 by have := HOW.out k (.inl hk); omega) _ _ _ _ _ _ _ _) (HD7.out.to fun k hk => putFS_other (show k ≠ w.heap.size + 1 by have := HOW.out k (.inr hk); omega) _ _ _ _ _ _ _ _) (HD7.out.to fun k hk => putFS_other (show k ≠ w.heap.size + 1 by have := HOW.out k (.inr hk); omega) _ _ _ _ _ _ _ _) (.inl ⟨rfl, rfl⟩) ⟨rfl, fun i c h => by cases h⟩ (.inl ⟨rfl, rfl⟩)
            (fun k hk => by have := HOW.out k (.inl hk); omega) (fun k hk => by have := HOW.out k (.inr hk); omega) (fun k hk => by have := HOW.out k (.inr hk); omega) (fun k hk => by cases hk) (fun k hk => by cases hk.1)
        · exact putFS_below HB7.out (by omega) _ _ _ _ _ _ _ _
  case first =>
  go_wp2_with fail
  go_loopw [8, 9] (fun s8 s9 wr => ∃ (k : Nat) (dv : Value), k ≤ m ∧ s9 = .int .i64 k ∧ s8 = dv ∧ RNames wr dv (preR R k) ∧ (∀ j, dv.ownBlock = some j → j < w.heap.size ∨ w.heap.size + 3 ≤ j) ∧ Below wB.heap.size wB wr)
    (fun _ s9 _ => m - (intOf s9).toNat)
  case atStart => exact ⟨0, _, Nat.zero_le _, rfl, rfl, hsu0, hown0, Below.refl _ _⟩
  case round =>
    clear hsu0 hown0
    obtain ⟨k, dv, hkm, rfl, rfl, hdv, hown, hbr⟩ := hrel
    obtain ⟨ga, gc, rfl⟩ := hdv.slice
    have hk0 := (show Blk wr w.heap.size 33 [.int .i64 R.room, .slice fa R.files.length fc, .slice da R.dir.length dc, .slice sa R.sure.length sc, .slice ca R.changes.length cc, .int .i64 R.steps, .int .i64 R.left, .slice pa R.plan.length pc] from (hbr.block _ HK0.out.lt).trans HK0.out)
    have x4 := hk0.cell (i := 4) rfl
    have HDV := Lib.hid hdv
    have HOW := Lib.hid hown
    have HBR := Lib.hid hbr
    clear hk0 hdv hown hbr
    by_cases hlt : k < m
    · obtain ⟨l1, l2⟩ := (HM2.out k).1 hlt
      have hkc : k < R.changes.length := by omega
      obtain ⟨u, hu1, hu2, hu3⟩ := HCH.out.2 k _ (List.getElem?_eq_getElem hkc)
      have hcl := HEA.out _ (List.getElem_mem hkc)
      have HPS := Lib.hid (preR_succ R hkc)
      generalize R.changes[k] = ck at hu2 hcl HPS
      obtain ⟨ua, uc, rfl⟩ := hu2.slice
      have hbw := HBB.out.trans (HBR.out.mono HBB.out.size)
      have hrow := HCV.out
      rcases hrow with ⟨_, h0⟩ | ⟨cb, co, cap, hv, hb, hc⟩
      · rw [h0] at hu1; cases hu1
      rw [HCH.out.1] at hv
      cases hv
      have c5 : wr.cell? ⟨cb, co + k, none⟩ = some (.slice ua ck.length uc) := by rw [World.cell?_of_block (w := w) (hbw.block cb hb)]; exact hc k _ hu1
      have HC5 : Hid (∀ W, Below wB.heap.size wB W → W.cell? ⟨cb, co + k, none⟩ = some (.slice ua ck.length uc)) := fun W hW => by rw [World.cell?_of_block (w := w) ((HBB.out.trans (hW.mono HBB.out.size)).block cb hb)]; exact hc k _ hu1
      have HUN := Lib.hid hu2
      have HCL := Lib.hid hcl
      have HPL : Hid ((preR R k).length < 3000) := by show _ < _; have := HLN.out k; have := HB1.out; omega
      clear hu1 hu2 hu3 hcl hbw hb hc
      obtain ⟨D, hD⟩ : ∃ D, D = preR R k := ⟨_, rfl⟩
      rw [← hD] at HDV HPL HPS HOW
      try rw [← hD]
      clear hD
      go_wp2_with fail
      clear x4 c5
      go_loopw [8, 37] (fun s8 s37 wq => ∃ (i : Nat) (dv : Value), i ≤ ck.length ∧ s37 = .int .i64 i ∧ s8 = dv ∧ RNames wq dv (turnR D (ck.take i)) ∧ (∀ j, dv.ownBlock = some j → j < w.heap.size ∨ w.heap.size + 3 ≤ j) ∧ Below wB.heap.size wB wq)
        (fun _ s37 _ => ck.length - (intOf s37).toNat)
      case atStart => exact ⟨0, _, Nat.zero_le _, rfl, rfl, HDV.out, HOW.out, HBR.out⟩
      case round =>
        clear HDV HOW HBR
        obtain ⟨i, dv, hi, rfl, rfl, hdv, hown, hbr⟩ := hrel
        obtain ⟨ga, gc, rfl⟩ := hdv.slice
        have hk0 := (show Blk wr w.heap.size 33 [.int .i64 R.room, .slice fa R.files.length fc, .slice da R.dir.length dc, .slice sa R.sure.length sc, .slice (some ⟨cb, co, none⟩) R.changes.length cc, .int .i64 R.steps, .int .i64 R.left, .slice pa R.plan.length pc] from (hbr.block _ HK0.out.lt).trans HK0.out)
        have x4 := hk0.cell (i := 4) rfl
        have c5 := HC5.out wr hbr
        by_cases hit : i < ck.length
        · have li : (i : Int) < ck.length := by omega
          have htk := turnR_take D ck hit
          have htl2 : (turnR D (ck.take i)).length < 10000 := by have := turnR_length (ck.take i) D; have := HPL.out; have := HCL.out; rw [List.length_take] at *; omega
          have hbw := HBB.out.trans (hbr.mono HBB.out.size)
          rcases HUN.out.below hbw with ⟨_, h0⟩ | ⟨nb, no, ncap, hnv, hnb, hnc⟩
          · rw [h0] at hit; simp at hit
          cases hnv
          obtain ⟨c1, c2⟩ := hnc i _ (List.getElem?_eq_getElem hit)
          generalize ck[i] = n at c1 c2 htk
          obtain ⟨xs, xf⟩ := n
          simp only at c1 c2
          obtain ⟨T, hT⟩ : ∃ T, T = turnR D (ck.take i) := ⟨_, rfl⟩
          rw [← hT] at hdv htl2 htk
          try rw [← hT]
          have HW := Lib.hid (refWith_any _ T (xs, xf) wr hdv htl2)
          have HTK := Lib.hid htk
          have HBR := Lib.hid hbr
          have hwl : w.heap.size + 3 ≤ wr.heap.size := by have := HKC.out.lt; have := hbr.size; omega
          have HWL := Lib.hid hwl
          clear hT hdv hown hbr htk htl2 hbw hnb hnc hwl hk0
          go_wp2_with fail
          refine HW.out.mono ?_; rintro e w2 ⟨v2, rfl, ho2, hb2⟩
          rw [← HTK.out] at ho2
          have HR1 : Hid (RNames w2 v2 (turnR D (ck.take (i + 1)))) := ho2.names
          have HR2 : Hid (∀ j, v2.ownBlock = some j → j < w.heap.size ∨ w.heap.size + 3 ≤ j) := fun j hj => .inr (by have := ho2.own j hj; have := HWL.out; omega)
          have HR3 : Hid (Below wB.heap.size wB w2) := HBR.out.trans (hb2.mono HBR.out.size)
          clear ho2 hb2 c1 c2 c5 x4
          have hb9 := HCL.out
          go_wp2_with fail
          go_roundw
          case rel => exact ⟨i + 1, _, by omega, by go_num, rfl, HR1.out, HR2.out, HR3.out⟩
          case measure => simp [intOf]; omega
        · have li : ¬ ((i : Int) < ck.length) := by omega
          rw [List.take_of_length_le (show ck.length ≤ i by omega), ← HPS.out] at hdv
          have hsame : turnR D (ck.take i) = preR R (k + 1) := by rw [List.take_of_length_le (show ck.length ≤ i by omega), ← HPS.out]
          rw [hsame] at hown
          try rw [hsame]
          have HR1 := Lib.hid hdv
          have HR2 := Lib.hid hown
          have HR3 := Lib.hid hbr
          clear hdv hown hbr hsame hk0 x4 c5
          have hb9 := HB1.out.2.1
          have hb8 := HM1.out
          go_wp2_with fail
          go_roundw
          case rel => exact ⟨k + 1, _, by omega, by go_num, rfl, HR1.out, HR2.out, HR3.out⟩
          case measure => simp [intOf]; omega
    · obtain rfl : k = m := by omega
      have HR1 := Lib.hid HDV.out
      have HR2 := Lib.hid HOW.out
      have HR3 := Lib.hid HBR.out
      have hb8 := HM1.out
      have hnot : ¬ ((k : Int) < dirs ∧ (k : Int) < R.changes.length) := fun h => by have := (HM2.out k).2 h; omega
      by_cases l1 : (k : Int) < dirs
      · have l2 : ¬ (k : Int) < R.changes.length := fun h => hnot ⟨l1, h⟩
        clear hnot HDV HOW HBR
        go_wp2_with fail
        go_meet
        exact ⟨_, rfl, HR1.out, HR2.out, HR3.out⟩
      · clear hnot HDV HOW HBR
        go_wp2_with fail
        go_meet
        exact ⟨_, rfl, HR1.out, HR2.out, HR3.out⟩
end Go.Proofs.YtigbgajelkknbaaGreatDoor
