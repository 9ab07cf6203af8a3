/- The reference of layer 2 (rubricref02): 'Sync' by what it makes of a file system. -/
import Derived.Test.YtpfbiijcmmkjlaaFsRj
import Derived.Test.YtpfbiijcmmkjlaaFsMa
namespace Go.Proofs.Ytpfbiijcmmkjlaa
open Go.RowKit

/-- The file with this number. -/
def fileR (R : RSt) (i : Nat) : RN := R.files.getD i (⟨#[]⟩, 0)
theorem fileR_get {R : RSt} {i : Nat} (h : i < R.files.length) : R.files[i]? = some (fileR R i) := by
  unfold fileR; rw [List.getD_eq_getElem?_getD, List.getElem?_eq_getElem h]; rfl
/-- The parts of one that is laid out. -/
theorem RFs.at_ {P : Nat → Prop} {w : World} {a0 a1 a2 a3 a4 a5 a6 a7 : Value} {R : RSt} (h : RFs P w (.agg #[a0, a1, a2, a3, a4, a5, a6, a7]) R) :
    RNames w a1 R.files ∧ RNames w a2 R.dir ∧ RNames w a3 R.sure ∧ (∃ cvs, RRow w a4 cvs ∧ ChOk P w cvs R.changes) ∧ RPlan w a7 R.plan ∧ OwnIn P a1 ∧ OwnIn P a2 ∧ OwnIn P a3 ∧ OwnIn P a4 ∧ OwnPl P a7 := by
  obtain ⟨fv, dv, sv, cv, pv, cvs, hv, g1, g2, g3, g4, g5, g6, o1, o2, o3, o4, o5⟩ := h
  unfold fsV at hv
  injection hv with hv
  have hv := congrArg Array.toList hv
  simp only [List.cons.injEq, and_true] at hv
  obtain ⟨-, rfl, rfl, rfl, rfl, -, -, rfl⟩ := hv
  exact ⟨g1, g2, g3, ⟨cvs, g4, g5⟩, g6, o1, o2, o3, o4, o5⟩
theorem openR_ok {R : RSt} {s : ByteArray} (hw : RWell R) (h : (openR R s).2 = 0) : ∃ k : Nat, (openR R s).1 = k ∧ k < R.files.length := by
  unfold openR at h ⊢
  by_cases h1 : nameB s = false
  · rw [if_pos h1] at h; cases h
  · rw [if_neg h1] at h ⊢
    by_cases h2 : findR R.dir s < 0
    · rw [if_pos h2] at h; cases h
    · rw [if_neg h2] at h ⊢
      rcases findR_some (s := s) R.dir with ⟨x, hx, _, h3⟩ | ⟨_, h3⟩
      · have := hw.dir x hx
        refine ⟨x.2.toNat, ?_, by omega⟩
        show findR R.dir s = _
        rw [h3]; omega
      · omega
theorem stepR_same (R : RSt) : (stepR R).1.files = R.files ∧ (stepR R).1.dir = R.dir ∧ (stepR R).1.sure = R.sure ∧ (stepR R).1.changes = R.changes ∧ (stepR R).1.room = R.room := by
  unfold stepR; split <;> exact ⟨rfl, rfl, rfl, rfl, rfl⟩
/-- What 'Sync' makes of it, and the error. -/
def syncR (R : RSt) (s : ByteArray) : RSt × Int :=
  if (openR R s).2 = 0 then (if (stepR R).2.2 = 0 then (setR (stepR R).1 (openR R s).1.toNat ((fileR (stepR R).1 (openR R s).1.toNat).1, ((fileR (stepR R).1 (openR R s).1.toNat).1.size : Nat)), 0) else ((stepR R).1, (stepR R).2.2)) else (R, (openR R s).2)
set_option maxRecDepth 100000 in
set_option maxHeartbeats 2000000 in
theorem refSync_any {P : Nat → Prop} (v : Value) (R : RSt) (s : ByteArray) (w : World) (h : RFs P w v R) (hk : ROk R) (hks : R.steps < 4611686018427387903) (hw : RWell R) (hsz : s.size ≤ 9223372036854775807) :
    Calls Try.prog 20 #[v, .string s] w fun e w' => ∃ v', e = .returned (.tuple #[v', .int .i64 (syncR R s).2]) ∧ RFs (fun k => P k ∨ w.heap.size ≤ k) w' v' (syncR R s).1 ∧ Below w.heap.size w w' := by
  have HO := Lib.hid (show syncR R s = if (openR R s).2 = 0 then (if (stepR R).2.2 = 0 then (setR (stepR R).1 (openR R s).1.toNat ((fileR (stepR R).1 (openR R s).1.toNat).1, ((fileR (stepR R).1 (openR R s).1.toNat).1.size : Nat)), 0) else ((stepR R).1, (stepR R).2.2)) else (R, (openR R s).2) from rfl)
  have hP := h.lt
  have HS := Lib.hid (fun (w0 : World) (hb : Below w.heap.size w w0) => refStepR v R w0 (hP.below hb) hk)
  have HF := Lib.hid (fun (w0 : World) (hb : Below w.heap.size w w0) => refOpen_any v R s w0 (hP.below hb) hk hsz)
  have HP := Lib.hid hP
  have HKT := Lib.hid (hk.step hks)
  have HQ := Lib.hid (fun h => openR_ok (s := s) hw h)
  have HTF := Lib.hid (stepR_same R).1
  have HFS := Lib.hid (fun f hf => hw.size f hf)
  generalize syncR R s = Z at HO
  generalize openR R s = q at HO HF HQ
  generalize stepR R = T at HO HS HKT HTF
  obtain ⟨q1, q2⟩ := q
  obtain ⟨T1, T2, T3⟩ := T
  obtain ⟨fa, fc, da, dc, sa, sc, ca, cc, pa, pc, cvs, rfl, -⟩ := h.parts
  clear h hk hP hw
  simp only at HO HKT HTF HQ
  go_enter Try.func20, Try.ntmps20
  go_wp2_with fail
  refine calls_world fun w0 hw0 => ?_
  have hB0 : Below w.heap.size w w0 := by rw [hw0]; exact ((Below.refl _ _).alloc (Nat.le_refl _) _).alloc (by simp) _
  have hK0 : Blk w0 w.heap.size 33 [.int .i64 R.room, .slice fa R.files.length fc, .slice da R.dir.length dc, .slice sa R.sure.length sc, .slice ca R.changes.length cc, .int .i64 R.steps, .int .i64 R.left, .slice pa R.plan.length pc] := by rw [hw0]; exact (Blk.new w 33 [.int .i64 R.room, .slice fa R.files.length fc, .slice da R.dir.length dc, .slice sa R.sure.length sc, .slice ca R.changes.length cc, .int .i64 R.steps, .int .i64 R.left, .slice pa R.plan.length pc]).alloc _
  have hK1 : Blk w0 (w.heap.size + 1) 33 zeroC := by
    rw [hw0]
    have := Blk.new (w.alloc (.cells #[.int .i64 R.room, .slice fa R.files.length fc, .slice da R.dir.length dc, .slice sa R.sure.length sc, .slice ca R.changes.length cc, .int .i64 R.steps, .int .i64 R.left, .slice pa R.plan.length pc] 33)) 33 zeroC
    rw [World.size_alloc] at this
    exact this
  have HB0 := Lib.hid hB0
  have HK0 := Lib.hid hK0
  have HK1 := Lib.hid hK1
  clear hw0 hB0 hK0 hK1
  refine (HF.out w0 HB0.out).mono ?_; rintro e w1 ⟨rfl, hb1⟩
  have hk0 := (show Blk w1 w.heap.size 33 [.int .i64 R.room, .slice fa R.files.length fc, .slice da R.dir.length dc, .slice sa R.sure.length sc, .slice ca R.changes.length cc, .int .i64 R.steps, .int .i64 R.left, .slice pa R.plan.length pc] from (hb1.block _ HK0.out.lt).trans HK0.out)
  have hk1 := (show Blk w1 (w.heap.size + 1) 33 zeroC from (hb1.block _ HK1.out.lt).trans HK1.out)
  have hB := HB0.out.trans (hb1.mono HB0.out.size)
  clear HK0 HK1 HB0
  have HK0 := Lib.hid hk0
  have HK1 := Lib.hid hk1
  have HB0 := Lib.hid hB
  clear hk0 hk1 hB
  clear hb1
  by_cases h2 : q2 = 0
  · subst h2
    obtain ⟨k, rfl, hkl⟩ := HQ.out rfl
    rw [if_pos rfl, Int.toNat_natCast] at HO
    obtain ⟨x0, x1, x2, x3, x4, x5, x6, x7, y0, y1, y2, y3, y4, y5, y6, y7⟩ := HK0.out.fs
    obtain ⟨p0, p1, p2, p3, p4, p5, p6, p7, z0, z1, z2, z3, z4, z5, z6, z7⟩ := (show Blk _ (w.heap.size + 1) 33 [.int .i64 0, .slice none 0 0, .slice none 0 0, .slice none 0 0, .slice none 0 0, .int .i64 0, .int .i64 0, .slice none 0 0] from HK1.out).fs
    go_wp2_with fail
    clear x0 x1 x2 x3 x4 x5 x6 x7 y0 y1 y2 y3 y4 y5 y6 y7 p0 p1 p2 p3 p4 p5 p6 p7 z0 z1 z2 z3 z4 z5 z6 z7
    refine (HS.out w1 HB0.out).mono ?_; rintro e w2 ⟨v1, rfl, hR1, hb1⟩
    have hR1' := hR1.below hb1
    obtain ⟨fa1, fc1, da1, dc1, sa1, sc1, ca1, cc1, pa1, pc1, cvs1, rfl, -⟩ := hR1.parts
    obtain ⟨room1, files1, dir1, sure1, changes1, steps1, left1, plan1⟩ := T1
    simp only at HO hR1 hR1'
    have hk0 := (show Blk w2 w.heap.size 33 [.int .i64 R.room, .slice fa R.files.length fc, .slice da R.dir.length dc, .slice sa R.sure.length sc, .slice ca R.changes.length cc, .int .i64 R.steps, .int .i64 R.left, .slice pa R.plan.length pc] from (hb1.block _ HK0.out.lt).trans HK0.out)
    have hk1 := (show Blk w2 (w.heap.size + 1) 33 zeroC from (hb1.block _ HK1.out.lt).trans HK1.out)
    have hB := HB0.out.trans (hb1.mono HB0.out.size)
    clear HK0 HK1 HB0
    have HK0 := Lib.hid hk0
    have HK1 := Lib.hid hk1
    have HB0 := Lib.hid hB
    clear hk0 hk1 hB
    obtain ⟨x0, x1, x2, x3, x4, x5, x6, x7, y0, y1, y2, y3, y4, y5, y6, y7⟩ := HK0.out.fs
    obtain ⟨p0, p1, p2, p3, p4, p5, p6, p7, z0, z1, z2, z3, z4, z5, z6, z7⟩ := (show Blk _ (w.heap.size + 1) 33 [.int .i64 0, .slice none 0 0, .slice none 0 0, .slice none 0 0, .slice none 0 0, .int .i64 0, .int .i64 0, .slice none 0 0] from HK1.out).fs
    have HKA := Lib.hid (putFS_blk HK0.out (.int .i64 room1) (.slice fa1 files1.length fc1) (.slice da1 dir1.length dc1) (.slice sa1 sure1.length sc1) (.slice ca1 changes1.length cc1) (.int .i64 steps1) (.int .i64 left1) (.slice pa1 plan1.length pc1))
    have HR1 := Lib.hid hR1'
    clear hR1 hR1' hb1
    go_upto_region 5 with fail
    refine wp_world fun w3 hw2 => ?_
    have hk0 : Blk w3 w.heap.size 33 [.int .i64 room1, .slice fa1 files1.length fc1, .slice da1 dir1.length dc1, .slice sa1 sure1.length sc1, .slice ca1 changes1.length cc1, .int .i64 steps1, .int .i64 left1, .slice pa1 plan1.length pc1] := by rw [hw2]; exact HKA.out
    have hk1 : Blk w3 (w.heap.size + 1) 33 zeroC := by rw [hw2]; exact (putFS_other (w := w2) (show w.heap.size + 1 ≠ w.heap.size by omega) _ _ _ _ _ _ _ _).trans HK1.out
    have hB2 : Below w.heap.size w w3 := by rw [hw2]; exact putFS_below HB0.out (Nat.le_refl _) _ _ _ _ _ _ _ _
    have hR2 : RFs (fun k => P k ∧ k < w.heap.size) w3 (.agg #[.int .i64 room1, .slice fa1 files1.length fc1, .slice da1 dir1.length dc1, .slice sa1 sure1.length sc1, .slice ca1 changes1.length cc1, .int .i64 steps1, .int .i64 left1, .slice pa1 plan1.length pc1]) ⟨room1, files1, dir1, sure1, changes1, steps1, left1, plan1⟩ := by
      rw [hw2]; exact HR1.out.to fun k hk => putFS_other (w := w2) (Nat.ne_of_lt hk.2) _ _ _ _ _ _ _ _
    clear hw2 HKA HR1 HB0 HK0 HK1
    clear x0 x1 x2 x3 x4 x5 x6 x7 y0 y1 y2 y3 y4 y5 y6 y7 p0 p1 p2 p3 p4 p5 p6 p7 z0 z1 z2 z3 z4 z5 z6 z7
    have HB0 := Lib.hid hB2
    have HR2 := Lib.hid hR2
    have HK0 := Lib.hid hk0
    have HK1 := Lib.hid hk1
    clear hk0 hk1 hB2 hR2
    by_cases h3 : T3 = 0
    · subst h3
      rw [if_pos rfl] at HO
      have hkl1 : k < files1.length := by rw [show files1 = R.files from HTF.out]; exact hkl
      have HKL := Lib.hid hkl1
      have lk : (k : Int) < files1.length := by omega
      have hfg := fileR_get (R := ⟨room1, files1, dir1, sure1, changes1, steps1, left1, plan1⟩) hkl1
      have hfsz : (fileR ⟨room1, files1, dir1, sure1, changes1, steps1, left1, plan1⟩ k).1.size ≤ 1000000 := HFS.out _ (by rw [← show files1 = R.files from HTF.out]; exact List.mem_of_getElem? hfg)
      generalize fileR ⟨room1, files1, dir1, sure1, changes1, steps1, left1, plan1⟩ k = y at HO hfg hfsz
      obtain ⟨yd, ys⟩ := y
      simp only at HO hfsz
      have hRN := HR2.out.at_.1
      rcases hRN with ⟨_, h0⟩ | ⟨b, o, cap, hv, hb, hc⟩
      · have h1 := HKL.out; rw [show files1 = [] from h0] at h1; simp at h1
      obtain ⟨c1, c2⟩ := hc k _ hfg
      cases hv
      have HYD := Lib.hid hfsz
      clear hb hc hfg hkl hkl1
      obtain ⟨x0, x1, x2, x3, x4, x5, x6, x7, y0, y1, y2, y3, y4, y5, y6, y7⟩ := HK0.out.fs
      obtain ⟨p0, p1, p2, p3, p4, p5, p6, p7, z0, z1, z2, z3, z4, z5, z6, z7⟩ := (show Blk _ (w.heap.size + 1) 33 [.int .i64 0, .slice none 0 0, .slice none 0 0, .slice none 0 0, .slice none 0 0, .int .i64 0, .int .i64 0, .slice none 0 0] from HK1.out).fs
      go_upto_region 9 with fail
      refine wp_world fun w4 hw2 => ?_
      have hxF : Blk w4 w3.heap.size 75 [.string yd, .int .i64 (yd.size : Nat)] := by rw [hw2]; exact Blk.new w3 75 [.string yd, .int .i64 (yd.size : Nat)]
      have hbx : Below w3.heap.size w3 w4 := by rw [hw2]; exact (Below.refl _ _).alloc (Nat.le_refl _) _
      have HEF : Hid (w.heap.size + 2 ≤ w3.heap.size) := by show _ ≤ _; have := HK1.out.lt; omega
      clear hw2
      have HF := Lib.hid hxF
      clear hxF
      clear x0 x1 x2 x3 x4 x5 x6 x7 y0 y1 y2 y3 y4 y5 y6 y7 p0 p1 p2 p3 p4 p5 p6 p7 z0 z1 z2 z3 z4 z5 z6 z7
      clear c1 c2
      have hR4 := HR2.out.below (w' := w4) hbx
      have hk0 := (show Blk w4 w.heap.size 33 [.int .i64 room1, .slice (some ⟨b, o, none⟩) files1.length fc1, .slice da1 dir1.length dc1, .slice sa1 sure1.length sc1, .slice ca1 changes1.length cc1, .int .i64 steps1, .int .i64 left1, .slice pa1 plan1.length pc1] from (hbx.block _ HK0.out.lt).trans HK0.out)
      have hk1 := (show Blk w4 (w.heap.size + 1) 33 zeroC from (hbx.block _ HK1.out.lt).trans HK1.out)
      have hB := HB0.out.trans (hbx.mono HB0.out.size)
      clear HK0 HK1 HB0
      have HK0 := Lib.hid hk0
      have HK1 := Lib.hid hk1
      have HB0 := Lib.hid hB
      clear hk0 hk1 hB
      clear HR2 hbx
      have HR2 := Lib.hid hR4
      clear hR4
      have hST := refSet_any (P := fun k => P k ∧ k < w.heap.size) _ ⟨room1, files1, dir1, sure1, changes1, steps1, left1, plan1⟩ k (yd, ((yd.size : Nat) : Int)) w4 HR2.out HKT.out HKL.out
      have HST := Lib.hid hST
      have HW2 : Hid (w.heap.size + 2 ≤ w4.heap.size) := by show _ ≤ _; have := HK1.out.lt; omega
      clear hST
      obtain ⟨x0, x1, x2, x3, x4, x5, x6, x7, y0, y1, y2, y3, y4, y5, y6, y7⟩ := HK0.out.fs
      obtain ⟨p0, p1, p2, p3, p4, p5, p6, p7, z0, z1, z2, z3, z4, z5, z6, z7⟩ := (show Blk _ (w.heap.size + 1) 33 [.int .i64 0, .slice none 0 0, .slice none 0 0, .slice none 0 0, .slice none 0 0, .int .i64 0, .int .i64 0, .slice none 0 0] from HK1.out).fs
      have xF0 := HF.out.cell (i := 0) rfl
      have xF1 := HF.out.cell (i := 1) rfl
      have xfF0 := HF.out.frozen 0
      have xfF1 := HF.out.frozen 1
      go_wp2_with fail
      clear x0 x1 x2 x3 x4 x5 x6 x7 y0 y1 y2 y3 y4 y5 y6 y7 p0 p1 p2 p3 p4 p5 p6 p7 z0 z1 z2 z3 z4 z5 z6 z7
      clear xF0 xF1 xfF0 xfF1
      refine HST.out.mono ?_; rintro e w5 ⟨v5, rfl, hR5, hb5⟩
      have hk0 := (show Blk w5 w.heap.size 33 [.int .i64 room1, .slice (some ⟨b, o, none⟩) files1.length fc1, .slice da1 dir1.length dc1, .slice sa1 sure1.length sc1, .slice ca1 changes1.length cc1, .int .i64 steps1, .int .i64 left1, .slice pa1 plan1.length pc1] from (hb5.block _ HK0.out.lt).trans HK0.out)
      have hk1 := (show Blk w5 (w.heap.size + 1) 33 zeroC from (hb5.block _ HK1.out.lt).trans HK1.out)
      have hB := HB0.out.trans (hb5.mono HB0.out.size)
      clear HK0 HK1 HB0
      have HK0 := Lib.hid hk0
      have HK1 := Lib.hid hk1
      have HB0 := Lib.hid hB
      clear hk0 hk1 hB
      obtain ⟨fa5, fc5, da5, dc5, sa5, sc5, ca5, cc5, pa5, pc5, cvs5, rfl, -⟩ := hR5.parts
      have HR5 := Lib.hid (hR5.mono (Q := fun k => (P k ∧ k < w.heap.size) ∨ w.heap.size + 2 ≤ k) fun k hk => hk.elim .inl (fun h => .inr (by have := HW2.out; omega)))
      generalize setR ⟨room1, files1, dir1, sure1, changes1, steps1, left1, plan1⟩ k (yd, ((yd.size : Nat) : Int)) = T5 at *
      obtain ⟨room5, files5, dir5, sure5, changes5, steps5, left5, plan5⟩ := T5
      simp only at HR5 HO
      clear hR5 hb5 HST
      obtain ⟨x0, x1, x2, x3, x4, x5, x6, x7, y0, y1, y2, y3, y4, y5, y6, y7⟩ := HK0.out.fs
      obtain ⟨p0, p1, p2, p3, p4, p5, p6, p7, z0, z1, z2, z3, z4, z5, z6, z7⟩ := (show Blk _ (w.heap.size + 1) 33 [.int .i64 0, .slice none 0 0, .slice none 0 0, .slice none 0 0, .slice none 0 0, .int .i64 0, .int .i64 0, .slice none 0 0] from HK1.out).fs
      go_wp2_with fail
      have hkF := putFS_blk HK1.out (.int .i64 room5) (.slice fa5 files5.length fc5) (.slice da5 dir5.length dc5) (.slice sa5 sure5.length sc5) (.slice ca5 changes5.length cc5) (.int .i64 steps5) (.int .i64 left5) (.slice pa5 plan5.length pc5)
      obtain ⟨d0, d1, d2, d3, d4, d5, d6, d7, -⟩ := hkF.fs
      unfold putFS at d0 d1 d2 d3 d4 d5 d6 d7
      refine bodyPost_ret (v := .tuple #[.agg #[.int .i64 room5, .slice fa5 files5.length fc5, .slice da5 dir5.length dc5, .slice sa5 sure5.length sc5, .slice ca5 changes5.length cc5, .int .i64 steps5, .int .i64 left5, .slice pa5 plan5.length pc5], .int .i64 0]) (by simp [results, Try.results20, go_sem, d0, d1, d2, d3, d4, d5, d6, d7]) rfl ⟨_, by rw [HO.out], ?_, ?_⟩
      · rw [HO.out]; exact (HR5.out.to fun k hk => putFS_other (show k ≠ w.heap.size + 1 by rcases hk with hk | hk <;> omega) _ _ _ _ _ _ _ _).mono fun _ hk => hk.imp (fun h => h.1) (fun h => by omega)
      · exact putFS_below HB0.out (by omega) _ _ _ _ _ _ _ _
    · rw [if_neg h3] at HO
      obtain ⟨x0, x1, x2, x3, x4, x5, x6, x7, y0, y1, y2, y3, y4, y5, y6, y7⟩ := HK0.out.fs
      obtain ⟨p0, p1, p2, p3, p4, p5, p6, p7, z0, z1, z2, z3, z4, z5, z6, z7⟩ := (show Blk _ (w.heap.size + 1) 33 [.int .i64 0, .slice none 0 0, .slice none 0 0, .slice none 0 0, .slice none 0 0, .int .i64 0, .int .i64 0, .slice none 0 0] from HK1.out).fs
      go_wp2_with fail
      have hkF := putFS_blk HK1.out (.int .i64 room1) (.slice fa1 files1.length fc1) (.slice da1 dir1.length dc1) (.slice sa1 sure1.length sc1) (.slice ca1 changes1.length cc1) (.int .i64 steps1) (.int .i64 left1) (.slice pa1 plan1.length pc1)
      obtain ⟨d0, d1, d2, d3, d4, d5, d6, d7, -⟩ := hkF.fs
      unfold putFS at d0 d1 d2 d3 d4 d5 d6 d7
      refine bodyPost_ret (v := .tuple #[.agg #[.int .i64 room1, .slice fa1 files1.length fc1, .slice da1 dir1.length dc1, .slice sa1 sure1.length sc1, .slice ca1 changes1.length cc1, .int .i64 steps1, .int .i64 left1, .slice pa1 plan1.length pc1], .int .i64 T3]) (by simp [results, Try.results20, go_sem, d0, d1, d2, d3, d4, d5, d6, d7]) rfl ⟨_, by rw [HO.out], ?_, ?_⟩
      · rw [HO.out]; exact (HR2.out.to fun k hk => putFS_other (show k ≠ w.heap.size + 1 by have := hk.2; omega) _ _ _ _ _ _ _ _).mono fun _ hk => .inl hk.1
      · exact putFS_below HB0.out (by omega) _ _ _ _ _ _ _ _
  · rw [if_neg h2] at HO
    obtain ⟨x0, x1, x2, x3, x4, x5, x6, x7, y0, y1, y2, y3, y4, y5, y6, y7⟩ := HK0.out.fs
    obtain ⟨p0, p1, p2, p3, p4, p5, p6, p7, z0, z1, z2, z3, z4, z5, z6, z7⟩ := (show Blk _ (w.heap.size + 1) 33 [.int .i64 0, .slice none 0 0, .slice none 0 0, .slice none 0 0, .slice none 0 0, .int .i64 0, .int .i64 0, .slice none 0 0] from HK1.out).fs
    go_wp2_with fail
    have hkF := putFS_blk HK1.out (.int .i64 R.room) (.slice fa R.files.length fc) (.slice da R.dir.length dc) (.slice sa R.sure.length sc) (.slice ca R.changes.length cc) (.int .i64 R.steps) (.int .i64 R.left) (.slice pa R.plan.length pc)
    obtain ⟨d0, d1, d2, d3, d4, d5, d6, d7, -⟩ := hkF.fs
    unfold putFS at d0 d1 d2 d3 d4 d5 d6 d7
    refine bodyPost_ret (v := .tuple #[.agg #[.int .i64 R.room, .slice fa R.files.length fc, .slice da R.dir.length dc, .slice sa R.sure.length sc, .slice ca R.changes.length cc, .int .i64 R.steps, .int .i64 R.left, .slice pa R.plan.length pc], .int .i64 q2]) (by simp [results, Try.results20, go_sem, d0, d1, d2, d3, d4, d5, d6, d7]) rfl ⟨_, by rw [HO.out], ?_, ?_⟩
    · rw [HO.out]; exact ((HP.out.below HB0.out).to fun k hk => putFS_other (show k ≠ w.heap.size + 1 by have := hk.2; omega) _ _ _ _ _ _ _ _).mono fun _ hk => .inl hk.1
    · exact putFS_below HB0.out (by omega) _ _ _ _ _ _ _ _
end Go.Proofs.Ytpfbiijcmmkjlaa
