/- The reference of layer 2 (rubricref02): 'Create' by what it makes of a file system. -/
import Derived.Test.YtpfbiijcmmkjlaaFsRk
namespace Go.Proofs.Ytpfbiijcmmkjlaa
open Go.RowKit

/-- Other files. -/
theorem RFs.withFiles {P Q : Nat → Prop} {w w' : World} {a0 a1 a2 a3 a4 a5 a6 a7 fv : Value} {R : RSt} {fs : List RN} (h : RFs P w (.agg #[a0, a1, a2, a3, a4, a5, a6, a7]) R) (hs : ∀ k, P k → w'.heap[k]? = w.heap[k]?) (hf : RNames w' fv fs) (ho : OwnIn Q fv) (hq : ∀ k, P k → Q k) :
    RFs Q w' (.agg #[a0, fv, a2, a3, a4, a5, a6, a7]) { R with files := fs } := by
  obtain ⟨f1, dv, sv, cv, pv, cvs, hv, g1, g2, g3, g4, g5, g6, o1, o2, o3, o4, o5⟩ := h
  unfold fsV at hv
  injection hv with hv
  have hv := congrArg Array.toList hv
  simp only [List.cons.injEq, and_true] at hv
  obtain ⟨rfl, rfl, rfl, rfl, rfl, rfl, rfl, rfl⟩ := hv
  exact RFs.mk (R := { R with files := fs }) hf (g2.to fun k hk => hs k (o2 k hk)) (g3.to fun k hk => hs k (o3 k hk)) (g4.to fun k hk => hs k (o4 k hk))
    ⟨g5.1, fun j c hc => by obtain ⟨u, e1, e2, e3⟩ := g5.2 j c hc; exact ⟨u, e1, e2.to fun k hk => hs k (e3 k hk), e3.mono hq⟩⟩ (g6.to fun k hk => hs k (o5 k hk)) ho (o2.mono hq) (o3.mono hq) (o4.mono hq) (o5.mono hq)
/-- What 'Create' makes of it, and the error. -/
def createR (R : RSt) (s : ByteArray) : RSt × Int :=
  if nameB s = true then (if 0 ≤ findR R.dir s then (R, 4) else if 64 ≤ R.dir.length then (R, 8) else if (stepR R).2.2 = 0 then (turnS { (stepR R).1 with files := (stepR R).1.files ++ [(⟨#[]⟩, 0)] } [(s, ((stepR R).1.files.length : Nat))], 0) else ((stepR R).1, (stepR R).2.2)) else (R, 7)
set_option maxRecDepth 100000 in
set_option maxHeartbeats 2000000 in
theorem refCreate_any {P : Nat → Prop} (v : Value) (R : RSt) (s : ByteArray) (w : World) (h : RFs P w v R) (hk : ROk R) (hks : R.steps < 4611686018427387903) (hkf : R.files.length < 4000) (hsz : s.size ≤ 9223372036854775807) :
    Calls Try.prog 18 #[v, .string s] w fun e w' => ∃ v', e = .returned (.tuple #[v', .int .i64 (createR R s).2]) ∧ RFs (fun k => P k ∨ w.heap.size ≤ k) w' v' (createR R s).1 ∧ Below w.heap.size w w' := by
  have HO := Lib.hid (show createR R s = if nameB s = true then (if 0 ≤ findR R.dir s then (R, 4) else if 64 ≤ R.dir.length then (R, 8) else if (stepR R).2.2 = 0 then (turnS { (stepR R).1 with files := (stepR R).1.files ++ [(⟨#[]⟩, 0)] } [(s, ((stepR R).1.files.length : Nat))], 0) else ((stepR R).1, (stepR R).2.2)) else (R, 7) from rfl)
  have hP := h.lt
  have HS := Lib.hid (fun (w0 : World) (hb : Below w.heap.size w w0) => refStepR v R w0 (hP.below hb) hk)
  have HP := Lib.hid hP
  have HKT := Lib.hid (hk.step hks)
  have HG := Lib.hid (fun (w0 : World) => good_any s w0 (by omega))
  obtain ⟨fa, fc, da, dc, sa, sc, ca, cc, pa, pc, cvs, rfl, -, hD, -⟩ := h.parts
  have HF := Lib.hid (fun (w0 : World) (hb : Below w.heap.size w w0) => refFind_any _ R.dir s w0 (hD.below hb) (by have := hk.dir; omega))
  have HTF : Hid ((stepR R).1.files.length < 4000) := by show _ < _; rw [(stepR_same R).1]; exact hkf
  generalize createR R s = Z at HO
  generalize findR R.dir s = q at HO HF
  generalize stepR R = T at HO HS HKT HTF
  generalize nameB s = gs at HO HG
  obtain ⟨T1, T2, T3⟩ := T
  clear h hk hP hD
  simp only at HO HKT HTF
  go_enter Try.func18, Try.ntmps18
  go_wp2_with fail
  refine calls_world fun w0 hw0 => ?_
  have hB0 : Below w.heap.size w w0 := by rw [hw0]; exact ((Below.refl _ _).alloc (Nat.le_refl _) _).alloc (by simp) _
  have hK0 : Blk w0 w.heap.size 33 [.int .i64 R.room, .slice fa R.files.length fc, .slice da R.dir.length dc, .slice sa R.sure.length sc, .slice ca R.changes.length cc, .int .i64 R.steps, .int .i64 R.left, .slice pa R.plan.length pc] := by rw [hw0]; exact (Blk.new w 33 [.int .i64 R.room, .slice fa R.files.length fc, .slice da R.dir.length dc, .slice sa R.sure.length sc, .slice ca R.changes.length cc, .int .i64 R.steps, .int .i64 R.left, .slice pa R.plan.length pc]).alloc _
  have hK1 : Blk w0 (w.heap.size + 1) 33 zeroC := by
    rw [hw0]
    have := Blk.new (w.alloc (.cells #[.int .i64 R.room, .slice fa R.files.length fc, .slice da R.dir.length dc, .slice sa R.sure.length sc, .slice ca R.changes.length cc, .int .i64 R.steps, .int .i64 R.left, .slice pa R.plan.length pc] 33)) 33 zeroC
    rw [World.size_alloc] at this
    exact this
  have HB0 := Lib.hid hB0
  have HK0 := Lib.hid hK0
  have HK1 := Lib.hid hK1
  clear hw0 hB0 hK0 hK1
  refine (HG.out w0).mono ?_; rintro e w1 ⟨rfl, rfl⟩
  cases gs with
  | false =>
    rw [if_neg (by simp)] at HO
    obtain ⟨x0, x1, x2, x3, x4, x5, x6, x7, y0, y1, y2, y3, y4, y5, y6, y7⟩ := HK0.out.fs
    obtain ⟨p0, p1, p2, p3, p4, p5, p6, p7, z0, z1, z2, z3, z4, z5, z6, z7⟩ := (show Blk _ (w.heap.size + 1) 33 [.int .i64 0, .slice none 0 0, .slice none 0 0, .slice none 0 0, .slice none 0 0, .int .i64 0, .int .i64 0, .slice none 0 0] from HK1.out).fs
    go_wp2_with fail
    have hkF := putFS_blk HK1.out (.int .i64 R.room) (.slice fa R.files.length fc) (.slice da R.dir.length dc) (.slice sa R.sure.length sc) (.slice ca R.changes.length cc) (.int .i64 R.steps) (.int .i64 R.left) (.slice pa R.plan.length pc)
    obtain ⟨d0, d1, d2, d3, d4, d5, d6, d7, -⟩ := hkF.fs
    unfold putFS at d0 d1 d2 d3 d4 d5 d6 d7
    refine bodyPost_ret (v := .tuple #[.agg #[.int .i64 R.room, .slice fa R.files.length fc, .slice da R.dir.length dc, .slice sa R.sure.length sc, .slice ca R.changes.length cc, .int .i64 R.steps, .int .i64 R.left, .slice pa R.plan.length pc], .int .i64 7]) (by simp [results, Try.results18, go_sem, d0, d1, d2, d3, d4, d5, d6, d7]) rfl ⟨_, by rw [HO.out], ?_, ?_⟩
    · rw [HO.out]; exact ((HP.out.below HB0.out).to fun k hk => putFS_other (show k ≠ w.heap.size + 1 by have := hk.2; omega) _ _ _ _ _ _ _ _).mono fun _ hk => .inl hk.1
    · exact putFS_below HB0.out (by omega) _ _ _ _ _ _ _ _
  | true =>
    rw [if_pos rfl] at HO
    obtain ⟨x0, x1, x2, x3, x4, x5, x6, x7, y0, y1, y2, y3, y4, y5, y6, y7⟩ := HK0.out.fs
    obtain ⟨p0, p1, p2, p3, p4, p5, p6, p7, z0, z1, z2, z3, z4, z5, z6, z7⟩ := (show Blk _ (w.heap.size + 1) 33 [.int .i64 0, .slice none 0 0, .slice none 0 0, .slice none 0 0, .slice none 0 0, .int .i64 0, .int .i64 0, .slice none 0 0] from HK1.out).fs
    go_wp2_with fail
    clear x0 x1 x2 x3 x4 x5 x6 x7 y0 y1 y2 y3 y4 y5 y6 y7 p0 p1 p2 p3 p4 p5 p6 p7 z0 z1 z2 z3 z4 z5 z6 z7
    refine (HF.out w0 HB0.out).mono ?_; rintro e w1 ⟨rfl, rfl⟩
    by_cases hq : 0 ≤ q
    · rw [if_pos hq] at HO
      obtain ⟨x0, x1, x2, x3, x4, x5, x6, x7, y0, y1, y2, y3, y4, y5, y6, y7⟩ := HK0.out.fs
      obtain ⟨p0, p1, p2, p3, p4, p5, p6, p7, z0, z1, z2, z3, z4, z5, z6, z7⟩ := (show Blk _ (w.heap.size + 1) 33 [.int .i64 0, .slice none 0 0, .slice none 0 0, .slice none 0 0, .slice none 0 0, .int .i64 0, .int .i64 0, .slice none 0 0] from HK1.out).fs
      go_wp2_with fail
      have hkF := putFS_blk HK1.out (.int .i64 R.room) (.slice fa R.files.length fc) (.slice da R.dir.length dc) (.slice sa R.sure.length sc) (.slice ca R.changes.length cc) (.int .i64 R.steps) (.int .i64 R.left) (.slice pa R.plan.length pc)
      obtain ⟨d0, d1, d2, d3, d4, d5, d6, d7, -⟩ := hkF.fs
      unfold putFS at d0 d1 d2 d3 d4 d5 d6 d7
      refine bodyPost_ret (v := .tuple #[.agg #[.int .i64 R.room, .slice fa R.files.length fc, .slice da R.dir.length dc, .slice sa R.sure.length sc, .slice ca R.changes.length cc, .int .i64 R.steps, .int .i64 R.left, .slice pa R.plan.length pc], .int .i64 4]) (by simp [results, Try.results18, go_sem, d0, d1, d2, d3, d4, d5, d6, d7]) rfl ⟨_, by rw [HO.out], ?_, ?_⟩
      · rw [HO.out]; exact ((HP.out.below HB0.out).to fun k hk => putFS_other (show k ≠ w.heap.size + 1 by have := hk.2; omega) _ _ _ _ _ _ _ _).mono fun _ hk => .inl hk.1
      · exact putFS_below HB0.out (by omega) _ _ _ _ _ _ _ _
    · rw [if_neg hq] at HO
      by_cases h64 : 64 ≤ R.dir.length
      · have h64' : (64 : Int) ≤ R.dir.length := by omega
        rw [if_pos h64] at HO
        obtain ⟨x0, x1, x2, x3, x4, x5, x6, x7, y0, y1, y2, y3, y4, y5, y6, y7⟩ := HK0.out.fs
        obtain ⟨p0, p1, p2, p3, p4, p5, p6, p7, z0, z1, z2, z3, z4, z5, z6, z7⟩ := (show Blk _ (w.heap.size + 1) 33 [.int .i64 0, .slice none 0 0, .slice none 0 0, .slice none 0 0, .slice none 0 0, .int .i64 0, .int .i64 0, .slice none 0 0] from HK1.out).fs
        go_wp2_with fail
        have hkF := putFS_blk HK1.out (.int .i64 R.room) (.slice fa R.files.length fc) (.slice da R.dir.length dc) (.slice sa R.sure.length sc) (.slice ca R.changes.length cc) (.int .i64 R.steps) (.int .i64 R.left) (.slice pa R.plan.length pc)
        obtain ⟨d0, d1, d2, d3, d4, d5, d6, d7, -⟩ := hkF.fs
        unfold putFS at d0 d1 d2 d3 d4 d5 d6 d7
        refine bodyPost_ret (v := .tuple #[.agg #[.int .i64 R.room, .slice fa R.files.length fc, .slice da R.dir.length dc, .slice sa R.sure.length sc, .slice ca R.changes.length cc, .int .i64 R.steps, .int .i64 R.left, .slice pa R.plan.length pc], .int .i64 8]) (by simp [results, Try.results18, go_sem, d0, d1, d2, d3, d4, d5, d6, d7]) rfl ⟨_, by rw [HO.out], ?_, ?_⟩
        · rw [HO.out]; exact ((HP.out.below HB0.out).to fun k hk => putFS_other (show k ≠ w.heap.size + 1 by have := hk.2; omega) _ _ _ _ _ _ _ _).mono fun _ hk => .inl hk.1
        · exact putFS_below HB0.out (by omega) _ _ _ _ _ _ _ _
      · have h64' : ¬ (64 : Int) ≤ R.dir.length := by omega
        rw [if_neg h64] at HO
        obtain ⟨x0, x1, x2, x3, x4, x5, x6, x7, y0, y1, y2, y3, y4, y5, y6, y7⟩ := HK0.out.fs
        obtain ⟨p0, p1, p2, p3, p4, p5, p6, p7, z0, z1, z2, z3, z4, z5, z6, z7⟩ := (show Blk _ (w.heap.size + 1) 33 [.int .i64 0, .slice none 0 0, .slice none 0 0, .slice none 0 0, .slice none 0 0, .int .i64 0, .int .i64 0, .slice none 0 0] from HK1.out).fs
        go_wp2_with fail
        clear x0 x1 x2 x3 x4 x5 x6 x7 y0 y1 y2 y3 y4 y5 y6 y7 p0 p1 p2 p3 p4 p5 p6 p7 z0 z1 z2 z3 z4 z5 z6 z7
        refine (HS.out w0 HB0.out).mono ?_; rintro e w2 ⟨v1, rfl, hR1, hb1⟩
        have hR1' := hR1.below hb1
        obtain ⟨fa1, fc1, da1, dc1, sa1, sc1, ca1, cc1, pa1, pc1, cvs1, rfl, -⟩ := hR1.parts
        obtain ⟨room1, files1, dir1, sure1, changes1, steps1, left1, plan1⟩ := T1
        simp only at HO hR1 hR1'
        have hk0 := (show Blk w2 w.heap.size 33 [.int .i64 R.room, .slice fa R.files.length fc, .slice da R.dir.length dc, .slice sa R.sure.length sc, .slice ca R.changes.length cc, .int .i64 R.steps, .int .i64 R.left, .slice pa R.plan.length pc] from (hb1.block _ HK0.out.lt).trans HK0.out)
        have hk1 := (show Blk w2 (w.heap.size + 1) 33 zeroC from (hb1.block _ HK1.out.lt).trans HK1.out)
        have hB := HB0.out.trans (hb1.mono HB0.out.size)
        clear HK0 HK1 HB0
        have HK0 := Lib.hid hk0
        have HK1 := Lib.hid hk1
        have HB0 := Lib.hid hB
        clear hk0 hk1 hB
        obtain ⟨x0, x1, x2, x3, x4, x5, x6, x7, y0, y1, y2, y3, y4, y5, y6, y7⟩ := HK0.out.fs
        obtain ⟨p0, p1, p2, p3, p4, p5, p6, p7, z0, z1, z2, z3, z4, z5, z6, z7⟩ := (show Blk _ (w.heap.size + 1) 33 [.int .i64 0, .slice none 0 0, .slice none 0 0, .slice none 0 0, .slice none 0 0, .int .i64 0, .int .i64 0, .slice none 0 0] from HK1.out).fs
        have HKA := Lib.hid (putFS_blk HK0.out (.int .i64 room1) (.slice fa1 files1.length fc1) (.slice da1 dir1.length dc1) (.slice sa1 sure1.length sc1) (.slice ca1 changes1.length cc1) (.int .i64 steps1) (.int .i64 left1) (.slice pa1 plan1.length pc1))
        have HR1 := Lib.hid hR1'
        clear hR1 hR1' hb1
        go_upto_region 8 with fail
        refine wp_world fun w3 hw2 => ?_
        have hk0 : Blk w3 w.heap.size 33 [.int .i64 room1, .slice fa1 files1.length fc1, .slice da1 dir1.length dc1, .slice sa1 sure1.length sc1, .slice ca1 changes1.length cc1, .int .i64 steps1, .int .i64 left1, .slice pa1 plan1.length pc1] := by rw [hw2]; exact HKA.out
        have hk1 : Blk w3 (w.heap.size + 1) 33 zeroC := by rw [hw2]; exact (putFS_other (w := w2) (show w.heap.size + 1 ≠ w.heap.size by omega) _ _ _ _ _ _ _ _).trans HK1.out
        have hB2 : Below w.heap.size w w3 := by rw [hw2]; exact putFS_below HB0.out (Nat.le_refl _) _ _ _ _ _ _ _ _
        have hR2 : RFs (fun k => P k ∧ k < w.heap.size) w3 (.agg #[.int .i64 room1, .slice fa1 files1.length fc1, .slice da1 dir1.length dc1, .slice sa1 sure1.length sc1, .slice ca1 changes1.length cc1, .int .i64 steps1, .int .i64 left1, .slice pa1 plan1.length pc1]) ⟨room1, files1, dir1, sure1, changes1, steps1, left1, plan1⟩ := by
          rw [hw2]; exact HR1.out.to fun k hk => putFS_other (w := w2) (Nat.ne_of_lt hk.2) _ _ _ _ _ _ _ _
        clear hw2 HKA HR1 HB0 HK0 HK1
        clear x0 x1 x2 x3 x4 x5 x6 x7 y0 y1 y2 y3 y4 y5 y6 y7 p0 p1 p2 p3 p4 p5 p6 p7 z0 z1 z2 z3 z4 z5 z6 z7
        have HB0 := Lib.hid hB2
        have HR2 := Lib.hid hR2
        have HK0 := Lib.hid hk0
        have HK1 := Lib.hid hk1
        clear hk0 hk1 hB2 hR2
        by_cases h3 : T3 = 0
        · subst h3
          rw [if_pos rfl] at HO
          have c4 : ∀ A, (w3.alloc A).cell? ⟨w.heap.size, 1, none⟩ = some (.slice fa1 files1.length fc1) := fun A => (HK0.out.alloc A).cell rfl
          have HF1 := Lib.hid HR2.out.at_.1
          have HOE := Lib.hid (OwnRF.empty w3)
          go_wp2_with (with_reducible refine wpList_append_rf rfl (.tmp 33) (.tmp 35) rfl w3.heap.size (.slice (some ⟨w3.heap.size, 0, none⟩) 0 0) (.slice fa1 files1.length fc1) [] files1 ?_ HOE.out ?_ HF1.out ?_ ?_ ?_ ?_)
          case refine_3 => exact (Below.refl _ _).alloc (Nat.le_refl _) _
          case refine_4 => have := HTF.out; simp; omega
          intro v4 w4 ho4 hg4
          try rw [List.nil_append] at ho4
          obtain ⟨a4, q4, rfl⟩ := ho4.slice
          have hb4 : Below w3.heap.size w3 w4 := ((Below.refl _ _).alloc (Nat.le_refl _) _).grown hg4 (by simp) fun j hj => by cases hj; exact Nat.le_refl _
          have HB4 := Lib.hid hb4
          have HO4 := Lib.hid (show OwnRF w3.heap.size (w4.alloc (.cells #[.string ⟨#[]⟩, .int .i64 0] 75)) (.slice a4 files1.length q4) files1 from World.ownsRow.alloc ho4 _)
          have HN4 : Hid (RNames (w4.alloc (.cells #[.string ⟨#[]⟩, .int .i64 0] 75)) (.slice (some ⟨w4.heap.size, 0, none⟩) 1 1) [(⟨#[]⟩, 0)]) :=
            .inr ⟨w4.heap.size, 0, 1, rfl, by simp, fun j n hj => by
              match j with
              | 0 => cases hj; exact ⟨(Blk.new w4 75 [.string ⟨#[]⟩, .int .i64 0]).cell rfl, (Blk.new w4 75 [.string ⟨#[]⟩, .int .i64 0]).cell rfl⟩
              | j + 1 => cases hj⟩
          clear ho4 hg4 hb4 c4
          go_wp2_with (with_reducible refine wpList_append_rf rfl (.tmp 36) (.tmp 38) rfl w3.heap.size (.slice a4 files1.length q4) (.slice (some ⟨w4.heap.size, 0, none⟩) 1 1) files1 [(⟨#[]⟩, 0)] ?_ HO4.out ?_ HN4.out ?_ ?_ ?_ ?_)
          case refine_1 => rfl
          case refine_2 => rfl
          case refine_3 => exact Below.refl _ _
          case refine_4 => have := HTF.out; simp; omega
          case refine_5 => have := HB4.out.size; simp; omega
          intro v5 w5 ho5 hg5
          obtain ⟨N, hN⟩ : ∃ N, N = (files1 ++ [((⟨#[]⟩, 0) : RN)]).length := ⟨_, rfl⟩
          obtain ⟨a5, q5, hv5⟩ := ho5.slice
          rw [← hN] at hv5
          subst hv5
          have hsub : wrap64 ((N : Int) - 1) = (files1.length : Int) := by have := HTF.out; rw [List.length_append] at hN; simp at hN; unfold wrap64; omega
          have hb5 : Below w3.heap.size w3 w5 := (HB4.out.alloc HB4.out.size _).grown hg5 (by have := HB4.out.size; simp; omega) (fun j hj => HO4.out.own j hj)
          have hk0 := (show Blk w5 w.heap.size 33 [.int .i64 room1, .slice fa1 files1.length fc1, .slice da1 dir1.length dc1, .slice sa1 sure1.length sc1, .slice ca1 changes1.length cc1, .int .i64 steps1, .int .i64 left1, .slice pa1 plan1.length pc1] from (hb5.block _ HK0.out.lt).trans HK0.out)
          have hk1 := (show Blk w5 (w.heap.size + 1) 33 zeroC from (hb5.block _ HK1.out.lt).trans HK1.out)
          have f1 := hk0.frozen 1
          have d1 := hk0.cell (i := 1) rfl
          have HKA := Lib.hid (hk0.set 1 (.slice a5 N q5))
          have HKB := Lib.hid (hk1.set_other (a := ⟨w.heap.size, 1, none⟩) (by simp) (.slice a5 N q5))
          have HB5 := Lib.hid hb5
          have HO5 := Lib.hid ho5
          have HNL := Lib.hid (show N = files1.length + 1 by rw [hN]; simp)
          have HWS : Hid (w.heap.size + 2 ≤ w3.heap.size) := by show _ ≤ _; have := HK1.out.lt; omega
          clear hg5 hb5 hk0 hk1 ho5 HO4 HN4 HB4 hN HOE
          go_upto_region 11 with fail
          refine wp_world fun w6 hw6 => ?_
          have hk0 : Blk w6 w.heap.size 33 [.int .i64 room1, .slice a5 N q5, .slice da1 dir1.length dc1, .slice sa1 sure1.length sc1, .slice ca1 changes1.length cc1, .int .i64 steps1, .int .i64 left1, .slice pa1 plan1.length pc1] := by rw [hw6]; exact HKA.out
          have hk1 : Blk w6 (w.heap.size + 1) 33 zeroC := by rw [hw6]; exact HKB.out
          have hB6 : Below w.heap.size w w6 := by rw [hw6]; exact (HB0.out.trans (HB5.out.mono HB0.out.size)).setCell (Nat.le_refl _) _
          have hR6 : RFs (fun k => (P k ∧ k < w.heap.size) ∨ w.heap.size + 2 ≤ k) w6 (.agg #[.int .i64 room1, .slice a5 N q5, .slice da1 dir1.length dc1, .slice sa1 sure1.length sc1, .slice ca1 changes1.length cc1, .int .i64 steps1, .int .i64 left1, .slice pa1 plan1.length pc1]) ⟨room1, files1 ++ [(⟨#[]⟩, 0)], dir1, sure1, changes1, steps1, left1, plan1⟩ :=
            HR2.out.withFiles (fun k hk => by rw [hw6, heap_setCell_other w5 _ k _ (show k ≠ w.heap.size from Nat.ne_of_lt hk.2)]; exact HB5.out.block k (by have := hk.2; have := HWS.out; omega))
              (by have h9 := HO5.out.names.to (w' := w6) (fun k hk => by rw [hw6]; exact heap_setCell_other w5 _ k _ (show k ≠ w.heap.size by have := HO5.out.own k hk; have := HWS.out; omega)); exact h9)
              (fun k hk => .inr (by have := HO5.out.own k hk; have := HWS.out; omega)) (fun k hk => .inl hk)
          clear hw6 HKA HKB HB5 HO5 f1 d1 HK0 HK1 HB0 HR2 HF1
          have HB0 := Lib.hid hB6
          have HK0 := Lib.hid hk0
          have HK1 := Lib.hid hk1
          have HR6 := Lib.hid hR6
          have HKN : Hid (ROk ⟨room1, files1 ++ [(⟨#[]⟩, 0)], dir1, sure1, changes1, steps1, left1, plan1⟩) := ⟨HKT.out.dir, HKT.out.sure, by show (files1 ++ [((⟨#[]⟩, 0) : RN)]).length < 5000; have := HTF.out; simp; omega, HKT.out.changes, HKT.out.each, HKT.out.steps, HKT.out.left, HKT.out.plan⟩
          clear hB6 hk0 hk1 hR6
          have hw2 : w.heap.size + 2 ≤ w6.heap.size := by have := HK1.out.lt; omega
          have hlB : Below w6.heap.size w6 (w6.alloc (.cells #[.string s, .int .i64 (files1.length : Int)] 73)) := (Below.refl _ _).alloc (Nat.le_refl _) _
          have hlN : RNames (w6.alloc (.cells #[.string s, .int .i64 (files1.length : Int)] 73)) (.slice (some ⟨w6.heap.size, 0, none⟩) 1 1) [(s, (files1.length : Int))] :=
            .inr ⟨w6.heap.size, 0, 1, rfl, by simp, fun j n hj => by
              match j with
              | 0 => cases hj; exact ⟨(Blk.new w6 73 [.string s, .int .i64 (files1.length : Int)]).cell rfl, (Blk.new w6 73 [.string s, .int .i64 (files1.length : Int)]).cell rfl⟩
              | j + 1 => cases hj⟩
          have hTR := refTurnR (P := fun k => (P k ∧ k < w.heap.size) ∨ w.heap.size + 2 ≤ k) _ _ ⟨room1, files1 ++ [(⟨#[]⟩, 0)], dir1, sure1, changes1, steps1, left1, plan1⟩ [(s, (files1.length : Int))] (w6.alloc (.cells #[.string s, .int .i64 (files1.length : Int)] 73)) (HR6.out.below hlB) HKN.out hlN (by simp) (fun k hk => by cases hk; exact .inr hw2)
          have HTR := Lib.hid hTR
          have HLB := Lib.hid hlB
          have HW2 := Lib.hid hw2
          clear hTR hlB hlN hw2
          obtain ⟨x0, x1, x2, x3, x4, x5, x6, x7, y0, y1, y2, y3, y4, y5, y6, y7⟩ := HK0.out.fs
          obtain ⟨p0, p1, p2, p3, p4, p5, p6, p7, z0, z1, z2, z3, z4, z5, z6, z7⟩ := (show Blk _ (w.heap.size + 1) 33 [.int .i64 0, .slice none 0 0, .slice none 0 0, .slice none 0 0, .slice none 0 0, .int .i64 0, .int .i64 0, .slice none 0 0] from HK1.out).fs
          go_wp2_with fail
          clear x0 x1 x2 x3 x4 x5 x6 x7 y0 y1 y2 y3 y4 y5 y6 y7 p0 p1 p2 p3 p4 p5 p6 p7 z0 z1 z2 z3 z4 z5 z6 z7
          refine HTR.out.mono ?_; rintro e w5 ⟨v5, rfl, hR5, hb5⟩
          have hb5' := HLB.out.trans (hb5.mono HLB.out.size)
          have hk0 := (show Blk w5 w.heap.size 33 [.int .i64 room1, .slice a5 N q5, .slice da1 dir1.length dc1, .slice sa1 sure1.length sc1, .slice ca1 changes1.length cc1, .int .i64 steps1, .int .i64 left1, .slice pa1 plan1.length pc1] from (hb5'.block _ HK0.out.lt).trans HK0.out)
          have hk1 := (show Blk w5 (w.heap.size + 1) 33 zeroC from (hb5'.block _ HK1.out.lt).trans HK1.out)
          have hB := HB0.out.trans (hb5'.mono HB0.out.size)
          clear HK0 HK1 HB0
          have HK0 := Lib.hid hk0
          have HK1 := Lib.hid hk1
          have HB0 := Lib.hid hB
          clear hk0 hk1 hB
          obtain ⟨fa5, fc5, da5, dc5, sa5, sc5, ca5, cc5, pa5, pc5, cvs5, rfl, -⟩ := hR5.parts
          have HR5 := Lib.hid (hR5.mono (Q := fun k => (P k ∧ k < w.heap.size) ∨ w.heap.size + 2 ≤ k) fun k hk => hk.elim id (fun h => .inr (by have := HW2.out; have := HLB.out.size; omega)))
          generalize turnS ⟨room1, files1 ++ [(⟨#[]⟩, 0)], dir1, sure1, changes1, steps1, left1, plan1⟩ [(s, (files1.length : Int))] = T5 at *
          obtain ⟨room5, files5, dir5, sure5, changes5, steps5, left5, plan5⟩ := T5
          simp only at HR5 HO
          clear hR5 hb5 hb5' HTR
          obtain ⟨x0, x1, x2, x3, x4, x5, x6, x7, y0, y1, y2, y3, y4, y5, y6, y7⟩ := HK0.out.fs
          obtain ⟨p0, p1, p2, p3, p4, p5, p6, p7, z0, z1, z2, z3, z4, z5, z6, z7⟩ := (show Blk _ (w.heap.size + 1) 33 [.int .i64 0, .slice none 0 0, .slice none 0 0, .slice none 0 0, .slice none 0 0, .int .i64 0, .int .i64 0, .slice none 0 0] from HK1.out).fs
          go_wp2_with fail
          have hkF := putFS_blk HK1.out (.int .i64 room5) (.slice fa5 files5.length fc5) (.slice da5 dir5.length dc5) (.slice sa5 sure5.length sc5) (.slice ca5 changes5.length cc5) (.int .i64 steps5) (.int .i64 left5) (.slice pa5 plan5.length pc5)
          obtain ⟨d0, d1, d2, d3, d4, d5, d6, d7, -⟩ := hkF.fs
          unfold putFS at d0 d1 d2 d3 d4 d5 d6 d7
          refine bodyPost_ret (v := .tuple #[.agg #[.int .i64 room5, .slice fa5 files5.length fc5, .slice da5 dir5.length dc5, .slice sa5 sure5.length sc5, .slice ca5 changes5.length cc5, .int .i64 steps5, .int .i64 left5, .slice pa5 plan5.length pc5], .int .i64 0]) (by simp [results, Try.results18, go_sem, d0, d1, d2, d3, d4, d5, d6, d7]) rfl ⟨_, by rw [HO.out], ?_, ?_⟩
          · rw [HO.out]; exact (HR5.out.to fun k hk => putFS_other (show k ≠ w.heap.size + 1 by rcases hk with hk | hk <;> omega) _ _ _ _ _ _ _ _).mono fun _ hk => hk.imp (fun h => h.1) (fun h => by omega)
          · exact putFS_below HB0.out (by omega) _ _ _ _ _ _ _ _
        · rw [if_neg h3] at HO
          obtain ⟨x0, x1, x2, x3, x4, x5, x6, x7, y0, y1, y2, y3, y4, y5, y6, y7⟩ := HK0.out.fs
          obtain ⟨p0, p1, p2, p3, p4, p5, p6, p7, z0, z1, z2, z3, z4, z5, z6, z7⟩ := (show Blk _ (w.heap.size + 1) 33 [.int .i64 0, .slice none 0 0, .slice none 0 0, .slice none 0 0, .slice none 0 0, .int .i64 0, .int .i64 0, .slice none 0 0] from HK1.out).fs
          go_wp2_with fail
          have hkF := putFS_blk HK1.out (.int .i64 room1) (.slice fa1 files1.length fc1) (.slice da1 dir1.length dc1) (.slice sa1 sure1.length sc1) (.slice ca1 changes1.length cc1) (.int .i64 steps1) (.int .i64 left1) (.slice pa1 plan1.length pc1)
          obtain ⟨d0, d1, d2, d3, d4, d5, d6, d7, -⟩ := hkF.fs
          unfold putFS at d0 d1 d2 d3 d4 d5 d6 d7
          refine bodyPost_ret (v := .tuple #[.agg #[.int .i64 room1, .slice fa1 files1.length fc1, .slice da1 dir1.length dc1, .slice sa1 sure1.length sc1, .slice ca1 changes1.length cc1, .int .i64 steps1, .int .i64 left1, .slice pa1 plan1.length pc1], .int .i64 T3]) (by simp [results, Try.results18, go_sem, d0, d1, d2, d3, d4, d5, d6, d7]) rfl ⟨_, by rw [HO.out], ?_, ?_⟩
          · rw [HO.out]; exact (HR2.out.to fun k hk => putFS_other (show k ≠ w.heap.size + 1 by have := hk.2; omega) _ _ _ _ _ _ _ _).mono fun _ hk => .inl hk.1
          · exact putFS_below HB0.out (by omega) _ _ _ _ _ _ _ _
end Go.Proofs.Ytpfbiijcmmkjlaa
