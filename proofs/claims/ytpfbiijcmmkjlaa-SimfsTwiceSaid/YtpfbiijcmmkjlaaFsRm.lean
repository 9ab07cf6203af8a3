/- The reference of layer 2 (rubricref02): 'Append' by what it makes of a file system. -/
import Derived.Test.YtpfbiijcmmkjlaaFsRl
import Derived.Deep.RegionHeldLaw
namespace Go.Proofs.Ytpfbiijcmmkjlaa
open Go.RowKit

theorem extract_none (a b : ByteArray) : a ++ b.extract 0 0 = a := by apply ByteArray.ext; simp
/-- How many bytes are put. -/
def putR (how code n left : Int) : Int := if code = 0 then n else if code = 20 ∧ 2 < how then max 0 (min (min (how - 3) n) left) else 0
/-- What 'Append' makes of it, and the error. -/
def appendR (R : RSt) (s b : ByteArray) : RSt × Int :=
  if (openR R s).2 = 0 then (if 65536 < (fileR R (openR R s).1.toNat).1.size + b.size then (R, 5) else if (stepR R).2.2 = 0 ∧ (stepR R).1.room - (usedR (stepR R).1 : Int) < b.size then ((stepR R).1, 21) else (setR (stepR R).1 (openR R s).1.toNat ((fileR R (openR R s).1.toNat).1 ++ b.extract 0 (putR (stepR R).2.1 (stepR R).2.2 b.size ((stepR R).1.room - (usedR (stepR R).1 : Int))).toNat, (fileR R (openR R s).1.toNat).2), (stepR R).2.2)) else (R, (openR R s).2)
theorem usedR_le {R : RSt} (hk : ROk R) (hw : RWell R) : usedR R ≤ 5000000000 := by
  have h := sum_le R.dir (fun x => szR R x.2) 1000000 fun x => by
    unfold szR
    rw [List.getD_eq_getElem?_getD]
    cases e : R.files[x.2.toNat]? with
    | none => exact Nat.zero_le _
    | some f => exact hw.size f (List.mem_of_getElem? e)
  have : R.dir.length * 1000000 ≤ 5000 * 1000000 := Nat.mul_le_mul_right _ (by have := hk.dir; omega)
  unfold usedR; omega
set_option maxRecDepth 100000 in
set_option maxHeartbeats 4000000 in
theorem refAppend_any {P : Nat → Prop} (v : Value) (R : RSt) (s b : ByteArray) (w : World) (h : RFs P w v R) (hk : ROk R) (hks : R.steps < 4611686018427387903) (hw : RWell R) (hrm : 0 ≤ R.room ∧ R.room ≤ 1048576) (hpl : ∀ k ∈ R.plan, k ≤ 9223372036854775807) (hsz : s.size ≤ 9223372036854775807) (hbs : b.size ≤ 1000000) :
    Calls Try.prog 19 #[v, .string s, .string b] w fun e w' => ∃ v', e = .returned (.tuple #[v', .int .i64 (appendR R s b).2]) ∧ RFs (fun k => P k ∨ w.heap.size ≤ k) w' v' (appendR R s b).1 ∧ Below w.heap.size w w' := by
  have HO := Lib.hid (show appendR R s b = if (openR R s).2 = 0 then (if 65536 < (fileR R (openR R s).1.toNat).1.size + b.size then (R, 5) else if (stepR R).2.2 = 0 ∧ (stepR R).1.room - (usedR (stepR R).1 : Int) < b.size then ((stepR R).1, 21) else (setR (stepR R).1 (openR R s).1.toNat ((fileR R (openR R s).1.toNat).1 ++ b.extract 0 (putR (stepR R).2.1 (stepR R).2.2 b.size ((stepR R).1.room - (usedR (stepR R).1 : Int))).toNat, (fileR R (openR R s).1.toNat).2), (stepR R).2.2)) else (R, (openR R s).2) from rfl)
  have hP := h.lt
  have HS := Lib.hid (fun (w0 : World) (hb : Below w.heap.size w w0) => refStepR v R w0 (hP.below hb) hk)
  have HF := Lib.hid (fun (w0 : World) (hb : Below w.heap.size w w0) => refOpen_any v R s w0 (hP.below hb) hk hsz)
  have HP := Lib.hid hP
  have HKT := Lib.hid (hk.step hks)
  have HQ := Lib.hid (fun h => openR_ok (s := s) hw h)
  have HTS := Lib.hid (stepR_same R)
  have HRM := Lib.hid hrm
  have HWR := Lib.hid hw
  have HHW : Hid ((stepR R).2.1 ≤ 9223372036854775807) := by
    show _ ≤ _
    unfold stepR
    split
    · simp
    · show howR R.plan ≤ _
      unfold howR
      cases hp : R.plan with
      | nil => simp
      | cons a l => exact hpl a (by rw [hp]; exact List.mem_cons_self)
  generalize appendR R s b = Z at HO
  generalize openR R s = q at HO HF HQ
  generalize stepR R = T at HO HS HKT HTS HHW
  obtain ⟨q1, q2⟩ := q
  obtain ⟨T1, T2, T3⟩ := T
  obtain ⟨fa, fc, da, dc, sa, sc, ca, cc, pa, pc, cvs, rfl, -⟩ := h.parts
  clear h hk hP hw hrm hpl hsz
  simp only at HO HKT HTS HQ HHW
  have HBS := Lib.hid hbs
  go_enter Try.func19, Try.ntmps19
  go_wp2_with fail
  refine calls_world fun w0 hw0 => ?_
  have hB0 : Below w.heap.size w w0 := by rw [hw0]; exact ((Below.refl _ _).alloc (Nat.le_refl _) _).alloc (by simp) _
  have hK0 : Blk w0 w.heap.size 33 [.int .i64 R.room, .slice fa R.files.length fc, .slice da R.dir.length dc, .slice sa R.sure.length sc, .slice ca R.changes.length cc, .int .i64 R.steps, .int .i64 R.left, .slice pa R.plan.length pc] := by rw [hw0]; exact (Blk.new w 33 [.int .i64 R.room, .slice fa R.files.length fc, .slice da R.dir.length dc, .slice sa R.sure.length sc, .slice ca R.changes.length cc, .int .i64 R.steps, .int .i64 R.left, .slice pa R.plan.length pc]).alloc _
  have hK1 : Blk w0 (w.heap.size + 1) 33 zeroC := by
    rw [hw0]
    have := Blk.new (w.alloc (.cells #[.int .i64 R.room, .slice fa R.files.length fc, .slice da R.dir.length dc, .slice sa R.sure.length sc, .slice ca R.changes.length cc, .int .i64 R.steps, .int .i64 R.left, .slice pa R.plan.length pc] 33)) 33 zeroC
    rw [World.size_alloc] at this
    exact this
  have HB0 := Lib.hid hB0
  have HK0 := Lib.hid hK0
  have HK1 := Lib.hid hK1
  clear hw0 hB0 hK0 hK1
  refine (HF.out w0 HB0.out).mono ?_; rintro e w1 ⟨rfl, hb1⟩
  have hk0 := (show Blk w1 w.heap.size 33 [.int .i64 R.room, .slice fa R.files.length fc, .slice da R.dir.length dc, .slice sa R.sure.length sc, .slice ca R.changes.length cc, .int .i64 R.steps, .int .i64 R.left, .slice pa R.plan.length pc] from (hb1.block _ HK0.out.lt).trans HK0.out)
  have hk1 := (show Blk w1 (w.heap.size + 1) 33 zeroC from (hb1.block _ HK1.out.lt).trans HK1.out)
  have hB := HB0.out.trans (hb1.mono HB0.out.size)
  clear HK0 HK1 HB0
  have HK0 := Lib.hid hk0
  have HK1 := Lib.hid hk1
  have HB0 := Lib.hid hB
  clear hk0 hk1 hB
  clear hb1
  by_cases h2 : q2 = 0
  · subst h2
    obtain ⟨k, rfl, hkl⟩ := HQ.out rfl
    rw [if_pos rfl, Int.toNat_natCast] at HO
    have lk : (k : Int) < R.files.length := by omega
    have hfg := fileR_get (R := R) hkl
    have hfsz : (fileR R k).1.size ≤ 1000000 := HWR.out.size _ (List.mem_of_getElem? hfg)
    generalize fileR R k = y at HO hfg hfsz
    obtain ⟨yd, ys⟩ := y
    simp only at HO hfsz
    have HYB := Lib.hid hfsz
    rcases (HP.out.below HB0.out).at_.1 with ⟨_, h0⟩ | ⟨g, o, cap, hv, hb, hc⟩
    · rw [h0] at hkl; simp at hkl
    obtain ⟨c1, c2⟩ := hc k _ hfg
    cases hv
    have HKL := Lib.hid hkl
    clear hb hc hfg hkl hfsz
    obtain ⟨x0, x1, x2, x3, x4, x5, x6, x7, y0, y1, y2, y3, y4, y5, y6, y7⟩ := HK0.out.fs
    obtain ⟨p0, p1, p2, p3, p4, p5, p6, p7, z0, z1, z2, z3, z4, z5, z6, z7⟩ := (show Blk _ (w.heap.size + 1) 33 [.int .i64 0, .slice none 0 0, .slice none 0 0, .slice none 0 0, .slice none 0 0, .int .i64 0, .int .i64 0, .slice none 0 0] from HK1.out).fs
    go_upto_region 5 with fail
    refine wp_world fun w1b hw2 => ?_
    have hxY : Blk w1b w1.heap.size 75 [.string yd, .int .i64 ys] := by rw [hw2]; exact Blk.new w1 75 [.string yd, .int .i64 ys]
    have hbx : Below w1.heap.size w1 w1b := by rw [hw2]; exact (Below.refl _ _).alloc (Nat.le_refl _) _
    have HEY : Hid (w.heap.size + 2 ≤ w1.heap.size) := by show _ ≤ _; have := HK1.out.lt; omega
    clear hw2
    have HY := Lib.hid hxY
    clear hxY
    clear x0 x1 x2 x3 x4 x5 x6 x7 y0 y1 y2 y3 y4 y5 y6 y7 p0 p1 p2 p3 p4 p5 p6 p7 z0 z1 z2 z3 z4 z5 z6 z7
    clear c1 c2
    have hk0 := (show Blk w1b w.heap.size 33 [.int .i64 R.room, .slice (some ⟨g, o, none⟩) R.files.length fc, .slice da R.dir.length dc, .slice sa R.sure.length sc, .slice ca R.changes.length cc, .int .i64 R.steps, .int .i64 R.left, .slice pa R.plan.length pc] from (hbx.block _ HK0.out.lt).trans HK0.out)
    have hk1 := (show Blk w1b (w.heap.size + 1) 33 zeroC from (hbx.block _ HK1.out.lt).trans HK1.out)
    have hB := HB0.out.trans (hbx.mono HB0.out.size)
    clear HK0 HK1 HB0
    have HK0 := Lib.hid hk0
    have HK1 := Lib.hid hk1
    have HB0 := Lib.hid hB
    clear hk0 hk1 hB
    clear hbx
    have hadd : wrap64 ((yd.size : Int) + (b.size : Int)) = (yd.size : Int) + (b.size : Int) := by have := HYB.out; have := HBS.out; unfold wrap64; omega
    by_cases hbig : 65536 < yd.size + b.size
    · rw [if_pos hbig] at HO
      have hbig' : (65536 : Int) < (yd.size : Int) + (b.size : Int) := by omega
      obtain ⟨x0, x1, x2, x3, x4, x5, x6, x7, y0, y1, y2, y3, y4, y5, y6, y7⟩ := HK0.out.fs
      obtain ⟨p0, p1, p2, p3, p4, p5, p6, p7, z0, z1, z2, z3, z4, z5, z6, z7⟩ := (show Blk _ (w.heap.size + 1) 33 [.int .i64 0, .slice none 0 0, .slice none 0 0, .slice none 0 0, .slice none 0 0, .int .i64 0, .int .i64 0, .slice none 0 0] from HK1.out).fs
      have xY0 := HY.out.cell (i := 0) rfl
      have xY1 := HY.out.cell (i := 1) rfl
      have xfY0 := HY.out.frozen 0
      have xfY1 := HY.out.frozen 1
      go_wp2_with fail
      have hkF := putFS_blk HK1.out (.int .i64 R.room) (.slice (some ⟨g, o, none⟩) R.files.length fc) (.slice da R.dir.length dc) (.slice sa R.sure.length sc) (.slice ca R.changes.length cc) (.int .i64 R.steps) (.int .i64 R.left) (.slice pa R.plan.length pc)
      obtain ⟨d0, d1, d2, d3, d4, d5, d6, d7, -⟩ := hkF.fs
      unfold putFS at d0 d1 d2 d3 d4 d5 d6 d7
      refine bodyPost_ret (v := .tuple #[.agg #[.int .i64 R.room, .slice (some ⟨g, o, none⟩) R.files.length fc, .slice da R.dir.length dc, .slice sa R.sure.length sc, .slice ca R.changes.length cc, .int .i64 R.steps, .int .i64 R.left, .slice pa R.plan.length pc], .int .i64 5]) (by simp [results, Try.results19, go_sem, d0, d1, d2, d3, d4, d5, d6, d7]) rfl ⟨_, by rw [HO.out], ?_, ?_⟩
      · rw [HO.out]; exact ((HP.out.below HB0.out).to fun k hk => putFS_other (show k ≠ w.heap.size + 1 by have := hk.2; omega) _ _ _ _ _ _ _ _).mono fun _ hk => .inl hk.1
      · exact putFS_below HB0.out (by omega) _ _ _ _ _ _ _ _
    · rw [if_neg hbig] at HO
      have hbig' : ¬ (65536 : Int) < (yd.size : Int) + (b.size : Int) := by omega
      obtain ⟨x0, x1, x2, x3, x4, x5, x6, x7, y0, y1, y2, y3, y4, y5, y6, y7⟩ := HK0.out.fs
      obtain ⟨p0, p1, p2, p3, p4, p5, p6, p7, z0, z1, z2, z3, z4, z5, z6, z7⟩ := (show Blk _ (w.heap.size + 1) 33 [.int .i64 0, .slice none 0 0, .slice none 0 0, .slice none 0 0, .slice none 0 0, .int .i64 0, .int .i64 0, .slice none 0 0] from HK1.out).fs
      have xY0 := HY.out.cell (i := 0) rfl
      have xY1 := HY.out.cell (i := 1) rfl
      have xfY0 := HY.out.frozen 0
      have xfY1 := HY.out.frozen 1
      go_wp2_with fail
      clear x0 x1 x2 x3 x4 x5 x6 x7 y0 y1 y2 y3 y4 y5 y6 y7 p0 p1 p2 p3 p4 p5 p6 p7 z0 z1 z2 z3 z4 z5 z6 z7
      clear xY0 xY1 xfY0 xfY1
      clear hadd hbig hbig'
      refine (HS.out w1b HB0.out).mono ?_; rintro e w2 ⟨v1, rfl, hR1, hb1⟩
      have hR1' := hR1.below hb1
      obtain ⟨fa1, fc1, da1, dc1, sa1, sc1, ca1, cc1, pa1, pc1, cvs1, rfl, -⟩ := hR1.parts
      obtain ⟨room1, files1, dir1, sure1, changes1, steps1, left1, plan1⟩ := T1
      simp only at HO hR1 hR1'
      have hk0 := (show Blk w2 w.heap.size 33 [.int .i64 R.room, .slice (some ⟨g, o, none⟩) R.files.length fc, .slice da R.dir.length dc, .slice sa R.sure.length sc, .slice ca R.changes.length cc, .int .i64 R.steps, .int .i64 R.left, .slice pa R.plan.length pc] from (hb1.block _ HK0.out.lt).trans HK0.out)
      have hk1 := (show Blk w2 (w.heap.size + 1) 33 zeroC from (hb1.block _ HK1.out.lt).trans HK1.out)
      have hB := HB0.out.trans (hb1.mono HB0.out.size)
      clear HK0 HK1 HB0
      have HK0 := Lib.hid hk0
      have HK1 := Lib.hid hk1
      have HB0 := Lib.hid hB
      clear hk0 hk1 hB
      have hxY := (show Blk w2 w1.heap.size 75 [.string yd, .int .i64 ys] from (hb1.block _ HY.out.lt).trans HY.out)
      clear HY
      have HY := Lib.hid hxY
      clear hxY
      obtain ⟨x0, x1, x2, x3, x4, x5, x6, x7, y0, y1, y2, y3, y4, y5, y6, y7⟩ := HK0.out.fs
      obtain ⟨p0, p1, p2, p3, p4, p5, p6, p7, z0, z1, z2, z3, z4, z5, z6, z7⟩ := (show Blk _ (w.heap.size + 1) 33 [.int .i64 0, .slice none 0 0, .slice none 0 0, .slice none 0 0, .slice none 0 0, .int .i64 0, .int .i64 0, .slice none 0 0] from HK1.out).fs
      have HKA := Lib.hid (putFS_blk HK0.out (.int .i64 room1) (.slice fa1 files1.length fc1) (.slice da1 dir1.length dc1) (.slice sa1 sure1.length sc1) (.slice ca1 changes1.length cc1) (.int .i64 steps1) (.int .i64 left1) (.slice pa1 plan1.length pc1))
      have HR1 := Lib.hid hR1'
      clear hR1 hR1' hb1
      go_upto_region 8 with fail
      refine wp_world fun w3 hw2 => ?_
      have hk0 : Blk w3 w.heap.size 33 [.int .i64 room1, .slice fa1 files1.length fc1, .slice da1 dir1.length dc1, .slice sa1 sure1.length sc1, .slice ca1 changes1.length cc1, .int .i64 steps1, .int .i64 left1, .slice pa1 plan1.length pc1] := by rw [hw2]; exact HKA.out
      have hk1 : Blk w3 (w.heap.size + 1) 33 zeroC := by rw [hw2]; exact (putFS_other (w := w2) (show w.heap.size + 1 ≠ w.heap.size by omega) _ _ _ _ _ _ _ _).trans HK1.out
      have hxY : Blk w3 w1.heap.size 75 [.string yd, .int .i64 ys] := by rw [hw2]; exact (putFS_other (w := w2) (show w1.heap.size ≠ w.heap.size by have := HEY.out; omega) _ _ _ _ _ _ _ _).trans HY.out
      have hB2 : Below w.heap.size w w3 := by rw [hw2]; exact putFS_below HB0.out (Nat.le_refl _) _ _ _ _ _ _ _ _
      have hR2 : RFs (fun k => P k ∧ k < w.heap.size) w3 (.agg #[.int .i64 room1, .slice fa1 files1.length fc1, .slice da1 dir1.length dc1, .slice sa1 sure1.length sc1, .slice ca1 changes1.length cc1, .int .i64 steps1, .int .i64 left1, .slice pa1 plan1.length pc1]) ⟨room1, files1, dir1, sure1, changes1, steps1, left1, plan1⟩ := by
        rw [hw2]; exact HR1.out.to fun k hk => putFS_other (w := w2) (Nat.ne_of_lt hk.2) _ _ _ _ _ _ _ _
      clear hw2 HKA HR1 HB0 HK0 HK1
      clear HY
      have HY := Lib.hid hxY
      clear hxY
      clear x0 x1 x2 x3 x4 x5 x6 x7 y0 y1 y2 y3 y4 y5 y6 y7 p0 p1 p2 p3 p4 p5 p6 p7 z0 z1 z2 z3 z4 z5 z6 z7
      have HB0 := Lib.hid hB2
      have HR2 := Lib.hid hR2
      have HK0 := Lib.hid hk0
      have HK1 := Lib.hid hk1
      clear hk0 hk1 hB2 hR2
      have HKL1 : Hid (k < files1.length) := by show k < files1.length; rw [show files1 = R.files from HTS.out.1]; exact HKL.out
      have HW1 : Hid (RWell ⟨room1, files1, dir1, sure1, changes1, steps1, left1, plan1⟩) := ⟨fun x hx => by
          have e1 : files1 = R.files := HTS.out.1
          have e2 : dir1 = R.dir := HTS.out.2.1
          show 0 ≤ x.2 ∧ x.2 < files1.length
          rw [e1]; exact HWR.out.dir x (by rw [← e2]; exact hx), fun f hf => HWR.out.size f (by rw [← show files1 = R.files from HTS.out.1]; exact hf)⟩
      have hu := usedR_le HKT.out HW1.out
      have hro : 0 ≤ room1 ∧ room1 ≤ 1048576 := by rw [show room1 = R.room from HTS.out.2.2.2.2]; exact HRM.out
      have HBD := Lib.hid (⟨rfl, rfl, rfl, Nat.le_refl _, fun _ _ => rfl⟩ : Below w3.heap.size w3 w3.drew)
      have HU := Lib.hid (refUsed_any _ ⟨room1, files1, dir1, sure1, changes1, steps1, left1, plan1⟩ w3.drew (HR2.out.below HBD.out) HKT.out HW1.out)
      obtain ⟨L, hL⟩ : ∃ L, L = room1 - (usedR ⟨room1, files1, dir1, sure1, changes1, steps1, left1, plan1⟩ : Int) := ⟨_, rfl⟩
      rw [← hL] at HO
      have hsub : IntKind.i64.wrap (room1 - (usedR ⟨room1, files1, dir1, sure1, changes1, steps1, left1, plan1⟩ : Int)) = L := by rw [hL]; exact IntWalk.i64_in _ (by omega)
      have hLb : -5000000000 ≤ L ∧ L ≤ 1048576 := by omega
      generalize usedR ⟨room1, files1, dir1, sure1, changes1, steps1, left1, plan1⟩ = u at HU hsub
      have HLB := Lib.hid hLb
      clear hu hro hL hLb
      have HSK : Hid (∀ W, Below w3.heap.size w3 W → (W.cell? ⟨w.heap.size, 0, none⟩ = some (.int .i64 room1) ∧ W.cell? ⟨w.heap.size, 1, none⟩ = some (.slice fa1 files1.length fc1) ∧ W.cell? ⟨w.heap.size, 2, none⟩ = some (.slice da1 dir1.length dc1) ∧ W.cell? ⟨w.heap.size, 3, none⟩ = some (.slice sa1 sure1.length sc1) ∧ W.cell? ⟨w.heap.size, 4, none⟩ = some (.slice ca1 changes1.length cc1) ∧ W.cell? ⟨w.heap.size, 5, none⟩ = some (.int .i64 steps1) ∧ W.cell? ⟨w.heap.size, 6, none⟩ = some (.int .i64 left1) ∧ W.cell? ⟨w.heap.size, 7, none⟩ = some (.slice pa1 plan1.length pc1))) := fun W hW => by
        obtain ⟨x0, x1, x2, x3, x4, x5, x6, x7, -⟩ := (show Blk W w.heap.size 33 [.int .i64 room1, .slice fa1 files1.length fc1, .slice da1 dir1.length dc1, .slice sa1 sure1.length sc1, .slice ca1 changes1.length cc1, .int .i64 steps1, .int .i64 left1, .slice pa1 plan1.length pc1] from (hW.block _ HK0.out.lt).trans HK0.out).fs
        exact ⟨x0, x1, x2, x3, x4, x5, x6, x7⟩
      go_region_held_law (fun W => W.cell? ⟨w.heap.size, 0, none⟩ = some (.int .i64 room1) ∧ W.cell? ⟨w.heap.size, 1, none⟩ = some (.slice fa1 files1.length fc1) ∧ W.cell? ⟨w.heap.size, 2, none⟩ = some (.slice da1 dir1.length dc1) ∧ W.cell? ⟨w.heap.size, 3, none⟩ = some (.slice sa1 sure1.length sc1) ∧ W.cell? ⟨w.heap.size, 4, none⟩ = some (.slice ca1 changes1.length cc1) ∧ W.cell? ⟨w.heap.size, 5, none⟩ = some (.int .i64 steps1) ∧ W.cell? ⟨w.heap.size, 6, none⟩ = some (.int .i64 left1) ∧ W.cell? ⟨w.heap.size, 7, none⟩ = some (.slice pa1 plan1.length pc1)) (first | assumption | (exact HSK.out _ HBD.out) | (exact HSK.out _ (HBD.out.trans hb4))) (first | (go_simp; go_at_call 31; refine HU.out.mono ?_; rintro e w4 ⟨rfl, hb4⟩))
      have hb4' : Below w3.heap.size w3 w4 := HBD.out.trans hb4
      have hR4 := HR2.out.below hb4'
      have hk0 := (show Blk w4 w.heap.size 33 [.int .i64 room1, .slice fa1 files1.length fc1, .slice da1 dir1.length dc1, .slice sa1 sure1.length sc1, .slice ca1 changes1.length cc1, .int .i64 steps1, .int .i64 left1, .slice pa1 plan1.length pc1] from (hb4'.block _ HK0.out.lt).trans HK0.out)
      have hk1 := (show Blk w4 (w.heap.size + 1) 33 zeroC from (hb4'.block _ HK1.out.lt).trans HK1.out)
      have hB := HB0.out.trans (hb4'.mono HB0.out.size)
      clear HK0 HK1 HB0
      have HK0 := Lib.hid hk0
      have HK1 := Lib.hid hk1
      have HB0 := Lib.hid hB
      clear hk0 hk1 hB
      have hxY := (show Blk w4 w1.heap.size 75 [.string yd, .int .i64 ys] from (hb4'.block _ HY.out.lt).trans HY.out)
      clear HY
      have HY := Lib.hid hxY
      clear hxY
      clear HR2 hb4 hb4' HU HSK HBD
      have HR2 := Lib.hid hR4
      clear hR4
      clear hsub
      have HLX : Hid (b.size ≤ 1000000) := HBS.out
      by_cases h3 : T3 = 0
      · subst h3
        by_cases hLn : L < (b.size : Int)
        · rw [if_pos ⟨rfl, hLn⟩] at HO
          obtain ⟨x0, x1, x2, x3, x4, x5, x6, x7, y0, y1, y2, y3, y4, y5, y6, y7⟩ := HK0.out.fs
          obtain ⟨p0, p1, p2, p3, p4, p5, p6, p7, z0, z1, z2, z3, z4, z5, z6, z7⟩ := (show Blk _ (w.heap.size + 1) 33 [.int .i64 0, .slice none 0 0, .slice none 0 0, .slice none 0 0, .slice none 0 0, .int .i64 0, .int .i64 0, .slice none 0 0] from HK1.out).fs
          go_wp2_with fail
          have hkF := putFS_blk HK1.out (.int .i64 room1) (.slice fa1 files1.length fc1) (.slice da1 dir1.length dc1) (.slice sa1 sure1.length sc1) (.slice ca1 changes1.length cc1) (.int .i64 steps1) (.int .i64 left1) (.slice pa1 plan1.length pc1)
          obtain ⟨d0, d1, d2, d3, d4, d5, d6, d7, -⟩ := hkF.fs
          unfold putFS at d0 d1 d2 d3 d4 d5 d6 d7
          refine bodyPost_ret (v := .tuple #[.agg #[.int .i64 room1, .slice fa1 files1.length fc1, .slice da1 dir1.length dc1, .slice sa1 sure1.length sc1, .slice ca1 changes1.length cc1, .int .i64 steps1, .int .i64 left1, .slice pa1 plan1.length pc1], .int .i64 21]) (by simp [results, Try.results19, go_sem, d0, d1, d2, d3, d4, d5, d6, d7]) rfl ⟨_, by rw [HO.out], ?_, ?_⟩
          · rw [HO.out]; exact (HR2.out.to fun k hk => putFS_other (show k ≠ w.heap.size + 1 by have := hk.2; omega) _ _ _ _ _ _ _ _).mono fun _ hk => .inl hk.1
          · exact putFS_below HB0.out (by omega) _ _ _ _ _ _ _ _
        · rw [if_neg (fun h => hLn h.2), show putR T2 0 b.size L = (b.size : Int) from if_pos rfl, Int.toNat_natCast, ByteArray.extract_zero_size] at HO
          have hLn' : (b.size : Int) ≤ L := by omega
          have HPN : Hid (b.size ≤ b.size) := Nat.le_refl _
          have hex : (b.extract 0 b.size).size ≤ b.size := by rw [ByteArray.size_extract]; omega
          have hcat : ¬ (9223372036854775807 < yd.size + (b.extract 0 b.size).size) := by have := HYB.out; have := HBS.out; omega
          have hcatb : ¬ (9223372036854775807 < yd.size + b.size) := by have := HYB.out; have := HBS.out; omega
          have lp : b.size ≤ b.size := HPN.out
          have xY0 := HY.out.cell (i := 0) rfl
          go_upto_region 19 with fail
          refine wp_region_quiet_tail 6 (by kernel_rfl) (by kernel_rfl) ?_
          simp only [List.take_succ_cons, List.take_zero, List.drop_succ_cons, List.drop_zero]
          repeat (go_big_quiet_step (fail))
          refine wpQuiet_nil ?_
          intro nq
          clear hex hcat hcatb lp xY0
          have xY0 := (HY.out.drewN nq).cell (i := 0) rfl
          have xfY0 := (HY.out.drewN nq).frozen 0
          go_upto_region 20 with fail
          refine wp_world fun w5' hw5 => ?_
          have hE : w.heap.size + 2 ≤ w1.heap.size := HEY.out
          have hk0 : Blk w5' w.heap.size 33 [.int .i64 room1, .slice fa1 files1.length fc1, .slice da1 dir1.length dc1, .slice sa1 sure1.length sc1, .slice ca1 changes1.length cc1, .int .i64 steps1, .int .i64 left1, .slice pa1 plan1.length pc1] := by rw [hw5]; exact (HK0.out.drewN nq).set_other (a := ⟨w1.heap.size, 0, none⟩) (show w.heap.size ≠ w1.heap.size by omega) _
          have hk1 : Blk w5' (w.heap.size + 1) 33 zeroC := by rw [hw5]; exact (HK1.out.drewN nq).set_other (a := ⟨w1.heap.size, 0, none⟩) (show w.heap.size + 1 ≠ w1.heap.size by omega) _
          have hky : Blk w5' w1.heap.size 75 [.string (yd ++ b), .int .i64 ys] := by rw [hw5]; exact (HY.out.drewN nq).set 0 (.string (yd ++ b))
          have hB5 : Below w.heap.size w w5' := by rw [hw5]; exact (Below.drewN HB0.out nq).setCell (p := ⟨w1.heap.size, 0, none⟩) (show w.heap.size ≤ w1.heap.size by omega) _
          have hR5 : RFs (fun k => P k ∧ k < w.heap.size) w5' (.agg #[.int .i64 room1, .slice fa1 files1.length fc1, .slice da1 dir1.length dc1, .slice sa1 sure1.length sc1, .slice ca1 changes1.length cc1, .int .i64 steps1, .int .i64 left1, .slice pa1 plan1.length pc1]) ⟨room1, files1, dir1, sure1, changes1, steps1, left1, plan1⟩ := HR2.out.to fun k hk => by rw [hw5, heap_setCell_other _ _ k _ (show k ≠ w1.heap.size by have := hk.2; omega)]; rfl
          clear hw5 xY0 xfY0 HK0 HK1 HY HB0 HR2 HKL hE
          have HB0 := Lib.hid hB5
          have HK0 := Lib.hid hk0
          have HK1 := Lib.hid hk1
          have HY := Lib.hid hky
          have HR2 := Lib.hid hR5
          have HKL := Lib.hid HKL1.out
          clear hB5 hk0 hk1 hky hR5
          have hST := refSet_any (P := fun k => P k ∧ k < w.heap.size) _ ⟨room1, files1, dir1, sure1, changes1, steps1, left1, plan1⟩ k ((yd ++ b), ys) w5' HR2.out HKT.out HKL.out
          have HST := Lib.hid hST
          have HW2 : Hid (w.heap.size + 2 ≤ w5'.heap.size) := by show _ ≤ _; have := HK1.out.lt; omega
          clear hST
          obtain ⟨x0, x1, x2, x3, x4, x5, x6, x7, y0, y1, y2, y3, y4, y5, y6, y7⟩ := HK0.out.fs
          obtain ⟨p0, p1, p2, p3, p4, p5, p6, p7, z0, z1, z2, z3, z4, z5, z6, z7⟩ := (show Blk _ (w.heap.size + 1) 33 [.int .i64 0, .slice none 0 0, .slice none 0 0, .slice none 0 0, .slice none 0 0, .int .i64 0, .int .i64 0, .slice none 0 0] from HK1.out).fs
          have xY0 := HY.out.cell (i := 0) rfl
          have xY1 := HY.out.cell (i := 1) rfl
          have xfY0 := HY.out.frozen 0
          have xfY1 := HY.out.frozen 1
          go_wp2_with fail
          clear x0 x1 x2 x3 x4 x5 x6 x7 y0 y1 y2 y3 y4 y5 y6 y7 p0 p1 p2 p3 p4 p5 p6 p7 z0 z1 z2 z3 z4 z5 z6 z7
          clear xY0 xY1 xfY0 xfY1
          refine HST.out.mono ?_; rintro e w5 ⟨v5, rfl, hR5, hb5⟩
          have hk0 := (show Blk w5 w.heap.size 33 [.int .i64 room1, .slice fa1 files1.length fc1, .slice da1 dir1.length dc1, .slice sa1 sure1.length sc1, .slice ca1 changes1.length cc1, .int .i64 steps1, .int .i64 left1, .slice pa1 plan1.length pc1] from (hb5.block _ HK0.out.lt).trans HK0.out)
          have hk1 := (show Blk w5 (w.heap.size + 1) 33 zeroC from (hb5.block _ HK1.out.lt).trans HK1.out)
          have hB := HB0.out.trans (hb5.mono HB0.out.size)
          clear HK0 HK1 HB0
          have HK0 := Lib.hid hk0
          have HK1 := Lib.hid hk1
          have HB0 := Lib.hid hB
          clear hk0 hk1 hB
          obtain ⟨fa5, fc5, da5, dc5, sa5, sc5, ca5, cc5, pa5, pc5, cvs5, rfl, -⟩ := hR5.parts
          have HR5 := Lib.hid (hR5.mono (Q := fun k => (P k ∧ k < w.heap.size) ∨ w.heap.size + 2 ≤ k) fun k hk => hk.elim .inl (fun h => .inr (by have := HW2.out; omega)))
          generalize setR ⟨room1, files1, dir1, sure1, changes1, steps1, left1, plan1⟩ k ((yd ++ b), ys) = T5 at *
          obtain ⟨room5, files5, dir5, sure5, changes5, steps5, left5, plan5⟩ := T5
          simp only at HR5 HO
          clear hR5 hb5 HST
          obtain ⟨x0, x1, x2, x3, x4, x5, x6, x7, y0, y1, y2, y3, y4, y5, y6, y7⟩ := HK0.out.fs
          obtain ⟨p0, p1, p2, p3, p4, p5, p6, p7, z0, z1, z2, z3, z4, z5, z6, z7⟩ := (show Blk _ (w.heap.size + 1) 33 [.int .i64 0, .slice none 0 0, .slice none 0 0, .slice none 0 0, .slice none 0 0, .int .i64 0, .int .i64 0, .slice none 0 0] from HK1.out).fs
          go_wp2_with fail
          have hkF := putFS_blk HK1.out (.int .i64 room5) (.slice fa5 files5.length fc5) (.slice da5 dir5.length dc5) (.slice sa5 sure5.length sc5) (.slice ca5 changes5.length cc5) (.int .i64 steps5) (.int .i64 left5) (.slice pa5 plan5.length pc5)
          obtain ⟨d0, d1, d2, d3, d4, d5, d6, d7, -⟩ := hkF.fs
          unfold putFS at d0 d1 d2 d3 d4 d5 d6 d7
          refine bodyPost_ret (v := .tuple #[.agg #[.int .i64 room5, .slice fa5 files5.length fc5, .slice da5 dir5.length dc5, .slice sa5 sure5.length sc5, .slice ca5 changes5.length cc5, .int .i64 steps5, .int .i64 left5, .slice pa5 plan5.length pc5], .int .i64 0]) (by simp [results, Try.results19, go_sem, d0, d1, d2, d3, d4, d5, d6, d7]) rfl ⟨_, by rw [HO.out], ?_, ?_⟩
          · rw [HO.out]; exact (HR5.out.to fun k hk => putFS_other (show k ≠ w.heap.size + 1 by rcases hk with hk | hk <;> omega) _ _ _ _ _ _ _ _).mono fun _ hk => hk.imp (fun h => h.1) (fun h => by omega)
          · exact putFS_below HB0.out (by omega) _ _ _ _ _ _ _ _
      · rw [if_neg (fun h => h3 h.1)] at HO
        by_cases hio : T3 = 20 ∧ 2 < T2
        · obtain ⟨rfl, ht⟩ := hio
          have hs3 : wrap64 (T2 - 3) = T2 - 3 := by have := HHW.out; unfold wrap64; omega
          have hp0 : putR T2 20 b.size L = max 0 (min (min (T2 - 3) b.size) L) := by unfold putR; rw [if_neg (by decide), if_pos ⟨rfl, ht⟩]
          by_cases hgt : (b.size : Int) < T2 - 3
          · obtain ⟨pn, hpn⟩ : ∃ pn : Nat, max 0 (min (b.size : Int) L) = pn := ⟨(max 0 (min (b.size : Int) L)).toNat, by omega⟩
            have HPN : Hid (pn ≤ b.size) := by show pn ≤ b.size; omega
            rw [hp0, show min (T2 - 3) (b.size : Int) = b.size by omega, hpn, Int.toNat_natCast] at HO
            clear hp0
            have hex : (b.extract 0 pn).size ≤ b.size := by rw [ByteArray.size_extract]; omega
            have hcat : ¬ (9223372036854775807 < yd.size + (b.extract 0 pn).size) := by have := HYB.out; have := HBS.out; omega
            have hcatb : ¬ (9223372036854775807 < yd.size + b.size) := by have := HYB.out; have := HBS.out; omega
            have lp : pn ≤ b.size := HPN.out
            have xY0 := HY.out.cell (i := 0) rfl
            go_upto_region 19 with fail
            refine wp_region_quiet_tail 6 (by kernel_rfl) (by kernel_rfl) ?_
            simp only [List.take_succ_cons, List.take_zero, List.drop_succ_cons, List.drop_zero]
            repeat (go_big_quiet_step (fail))
            refine wpQuiet_nil ?_
            intro nq
            clear hex hcat hcatb lp xY0
            have xY0 := (HY.out.drewN nq).cell (i := 0) rfl
            have xfY0 := (HY.out.drewN nq).frozen 0
            go_upto_region 20 with fail
            refine wp_world fun w5' hw5 => ?_
            have hE : w.heap.size + 2 ≤ w1.heap.size := HEY.out
            have hk0 : Blk w5' w.heap.size 33 [.int .i64 room1, .slice fa1 files1.length fc1, .slice da1 dir1.length dc1, .slice sa1 sure1.length sc1, .slice ca1 changes1.length cc1, .int .i64 steps1, .int .i64 left1, .slice pa1 plan1.length pc1] := by rw [hw5]; exact (HK0.out.drewN nq).set_other (a := ⟨w1.heap.size, 0, none⟩) (show w.heap.size ≠ w1.heap.size by omega) _
            have hk1 : Blk w5' (w.heap.size + 1) 33 zeroC := by rw [hw5]; exact (HK1.out.drewN nq).set_other (a := ⟨w1.heap.size, 0, none⟩) (show w.heap.size + 1 ≠ w1.heap.size by omega) _
            have hky : Blk w5' w1.heap.size 75 [.string (yd ++ b.extract 0 pn), .int .i64 ys] := by rw [hw5]; exact (HY.out.drewN nq).set 0 (.string (yd ++ b.extract 0 pn))
            have hB5 : Below w.heap.size w w5' := by rw [hw5]; exact (Below.drewN HB0.out nq).setCell (p := ⟨w1.heap.size, 0, none⟩) (show w.heap.size ≤ w1.heap.size by omega) _
            have hR5 : RFs (fun k => P k ∧ k < w.heap.size) w5' (.agg #[.int .i64 room1, .slice fa1 files1.length fc1, .slice da1 dir1.length dc1, .slice sa1 sure1.length sc1, .slice ca1 changes1.length cc1, .int .i64 steps1, .int .i64 left1, .slice pa1 plan1.length pc1]) ⟨room1, files1, dir1, sure1, changes1, steps1, left1, plan1⟩ := HR2.out.to fun k hk => by rw [hw5, heap_setCell_other _ _ k _ (show k ≠ w1.heap.size by have := hk.2; omega)]; rfl
            clear hw5 xY0 xfY0 HK0 HK1 HY HB0 HR2 HKL hE
            have HB0 := Lib.hid hB5
            have HK0 := Lib.hid hk0
            have HK1 := Lib.hid hk1
            have HY := Lib.hid hky
            have HR2 := Lib.hid hR5
            have HKL := Lib.hid HKL1.out
            clear hB5 hk0 hk1 hky hR5
            have hST := refSet_any (P := fun k => P k ∧ k < w.heap.size) _ ⟨room1, files1, dir1, sure1, changes1, steps1, left1, plan1⟩ k ((yd ++ b.extract 0 pn), ys) w5' HR2.out HKT.out HKL.out
            have HST := Lib.hid hST
            have HW2 : Hid (w.heap.size + 2 ≤ w5'.heap.size) := by show _ ≤ _; have := HK1.out.lt; omega
            clear hST
            obtain ⟨x0, x1, x2, x3, x4, x5, x6, x7, y0, y1, y2, y3, y4, y5, y6, y7⟩ := HK0.out.fs
            obtain ⟨p0, p1, p2, p3, p4, p5, p6, p7, z0, z1, z2, z3, z4, z5, z6, z7⟩ := (show Blk _ (w.heap.size + 1) 33 [.int .i64 0, .slice none 0 0, .slice none 0 0, .slice none 0 0, .slice none 0 0, .int .i64 0, .int .i64 0, .slice none 0 0] from HK1.out).fs
            have xY0 := HY.out.cell (i := 0) rfl
            have xY1 := HY.out.cell (i := 1) rfl
            have xfY0 := HY.out.frozen 0
            have xfY1 := HY.out.frozen 1
            go_wp2_with fail
            clear x0 x1 x2 x3 x4 x5 x6 x7 y0 y1 y2 y3 y4 y5 y6 y7 p0 p1 p2 p3 p4 p5 p6 p7 z0 z1 z2 z3 z4 z5 z6 z7
            clear xY0 xY1 xfY0 xfY1
            refine HST.out.mono ?_; rintro e w5 ⟨v5, rfl, hR5, hb5⟩
            have hk0 := (show Blk w5 w.heap.size 33 [.int .i64 room1, .slice fa1 files1.length fc1, .slice da1 dir1.length dc1, .slice sa1 sure1.length sc1, .slice ca1 changes1.length cc1, .int .i64 steps1, .int .i64 left1, .slice pa1 plan1.length pc1] from (hb5.block _ HK0.out.lt).trans HK0.out)
            have hk1 := (show Blk w5 (w.heap.size + 1) 33 zeroC from (hb5.block _ HK1.out.lt).trans HK1.out)
            have hB := HB0.out.trans (hb5.mono HB0.out.size)
            clear HK0 HK1 HB0
            have HK0 := Lib.hid hk0
            have HK1 := Lib.hid hk1
            have HB0 := Lib.hid hB
            clear hk0 hk1 hB
            obtain ⟨fa5, fc5, da5, dc5, sa5, sc5, ca5, cc5, pa5, pc5, cvs5, rfl, -⟩ := hR5.parts
            have HR5 := Lib.hid (hR5.mono (Q := fun k => (P k ∧ k < w.heap.size) ∨ w.heap.size + 2 ≤ k) fun k hk => hk.elim .inl (fun h => .inr (by have := HW2.out; omega)))
            generalize setR ⟨room1, files1, dir1, sure1, changes1, steps1, left1, plan1⟩ k ((yd ++ b.extract 0 pn), ys) = T5 at *
            obtain ⟨room5, files5, dir5, sure5, changes5, steps5, left5, plan5⟩ := T5
            simp only at HR5 HO
            clear hR5 hb5 HST
            obtain ⟨x0, x1, x2, x3, x4, x5, x6, x7, y0, y1, y2, y3, y4, y5, y6, y7⟩ := HK0.out.fs
            obtain ⟨p0, p1, p2, p3, p4, p5, p6, p7, z0, z1, z2, z3, z4, z5, z6, z7⟩ := (show Blk _ (w.heap.size + 1) 33 [.int .i64 0, .slice none 0 0, .slice none 0 0, .slice none 0 0, .slice none 0 0, .int .i64 0, .int .i64 0, .slice none 0 0] from HK1.out).fs
            go_wp2_with fail
            have hkF := putFS_blk HK1.out (.int .i64 room5) (.slice fa5 files5.length fc5) (.slice da5 dir5.length dc5) (.slice sa5 sure5.length sc5) (.slice ca5 changes5.length cc5) (.int .i64 steps5) (.int .i64 left5) (.slice pa5 plan5.length pc5)
            obtain ⟨d0, d1, d2, d3, d4, d5, d6, d7, -⟩ := hkF.fs
            unfold putFS at d0 d1 d2 d3 d4 d5 d6 d7
            refine bodyPost_ret (v := .tuple #[.agg #[.int .i64 room5, .slice fa5 files5.length fc5, .slice da5 dir5.length dc5, .slice sa5 sure5.length sc5, .slice ca5 changes5.length cc5, .int .i64 steps5, .int .i64 left5, .slice pa5 plan5.length pc5], .int .i64 20]) (by simp [results, Try.results19, go_sem, d0, d1, d2, d3, d4, d5, d6, d7]) rfl ⟨_, by rw [HO.out], ?_, ?_⟩
            · rw [HO.out]; exact (HR5.out.to fun k hk => putFS_other (show k ≠ w.heap.size + 1 by rcases hk with hk | hk <;> omega) _ _ _ _ _ _ _ _).mono fun _ hk => hk.imp (fun h => h.1) (fun h => by omega)
            · exact putFS_below HB0.out (by omega) _ _ _ _ _ _ _ _
          · obtain ⟨pn, hpn⟩ : ∃ pn : Nat, max 0 (min (T2 - 3) L) = pn := ⟨(max 0 (min (T2 - 3) L)).toNat, by omega⟩
            have HPN : Hid (pn ≤ b.size) := by show pn ≤ b.size; omega
            rw [hp0, show min (T2 - 3) (b.size : Int) = T2 - 3 by omega, hpn, Int.toNat_natCast] at HO
            clear hp0
            have hex : (b.extract 0 pn).size ≤ b.size := by rw [ByteArray.size_extract]; omega
            have hcat : ¬ (9223372036854775807 < yd.size + (b.extract 0 pn).size) := by have := HYB.out; have := HBS.out; omega
            have hcatb : ¬ (9223372036854775807 < yd.size + b.size) := by have := HYB.out; have := HBS.out; omega
            have lp : pn ≤ b.size := HPN.out
            have xY0 := HY.out.cell (i := 0) rfl
            go_upto_region 19 with fail
            refine wp_region_quiet_tail 6 (by kernel_rfl) (by kernel_rfl) ?_
            simp only [List.take_succ_cons, List.take_zero, List.drop_succ_cons, List.drop_zero]
            repeat (go_big_quiet_step (fail))
            refine wpQuiet_nil ?_
            intro nq
            clear hex hcat hcatb lp xY0
            have xY0 := (HY.out.drewN nq).cell (i := 0) rfl
            have xfY0 := (HY.out.drewN nq).frozen 0
            go_upto_region 20 with fail
            refine wp_world fun w5' hw5 => ?_
            have hE : w.heap.size + 2 ≤ w1.heap.size := HEY.out
            have hk0 : Blk w5' w.heap.size 33 [.int .i64 room1, .slice fa1 files1.length fc1, .slice da1 dir1.length dc1, .slice sa1 sure1.length sc1, .slice ca1 changes1.length cc1, .int .i64 steps1, .int .i64 left1, .slice pa1 plan1.length pc1] := by rw [hw5]; exact (HK0.out.drewN nq).set_other (a := ⟨w1.heap.size, 0, none⟩) (show w.heap.size ≠ w1.heap.size by omega) _
            have hk1 : Blk w5' (w.heap.size + 1) 33 zeroC := by rw [hw5]; exact (HK1.out.drewN nq).set_other (a := ⟨w1.heap.size, 0, none⟩) (show w.heap.size + 1 ≠ w1.heap.size by omega) _
            have hky : Blk w5' w1.heap.size 75 [.string (yd ++ b.extract 0 pn), .int .i64 ys] := by rw [hw5]; exact (HY.out.drewN nq).set 0 (.string (yd ++ b.extract 0 pn))
            have hB5 : Below w.heap.size w w5' := by rw [hw5]; exact (Below.drewN HB0.out nq).setCell (p := ⟨w1.heap.size, 0, none⟩) (show w.heap.size ≤ w1.heap.size by omega) _
            have hR5 : RFs (fun k => P k ∧ k < w.heap.size) w5' (.agg #[.int .i64 room1, .slice fa1 files1.length fc1, .slice da1 dir1.length dc1, .slice sa1 sure1.length sc1, .slice ca1 changes1.length cc1, .int .i64 steps1, .int .i64 left1, .slice pa1 plan1.length pc1]) ⟨room1, files1, dir1, sure1, changes1, steps1, left1, plan1⟩ := HR2.out.to fun k hk => by rw [hw5, heap_setCell_other _ _ k _ (show k ≠ w1.heap.size by have := hk.2; omega)]; rfl
            clear hw5 xY0 xfY0 HK0 HK1 HY HB0 HR2 HKL hE
            have HB0 := Lib.hid hB5
            have HK0 := Lib.hid hk0
            have HK1 := Lib.hid hk1
            have HY := Lib.hid hky
            have HR2 := Lib.hid hR5
            have HKL := Lib.hid HKL1.out
            clear hB5 hk0 hk1 hky hR5
            have hST := refSet_any (P := fun k => P k ∧ k < w.heap.size) _ ⟨room1, files1, dir1, sure1, changes1, steps1, left1, plan1⟩ k ((yd ++ b.extract 0 pn), ys) w5' HR2.out HKT.out HKL.out
            have HST := Lib.hid hST
            have HW2 : Hid (w.heap.size + 2 ≤ w5'.heap.size) := by show _ ≤ _; have := HK1.out.lt; omega
            clear hST
            obtain ⟨x0, x1, x2, x3, x4, x5, x6, x7, y0, y1, y2, y3, y4, y5, y6, y7⟩ := HK0.out.fs
            obtain ⟨p0, p1, p2, p3, p4, p5, p6, p7, z0, z1, z2, z3, z4, z5, z6, z7⟩ := (show Blk _ (w.heap.size + 1) 33 [.int .i64 0, .slice none 0 0, .slice none 0 0, .slice none 0 0, .slice none 0 0, .int .i64 0, .int .i64 0, .slice none 0 0] from HK1.out).fs
            have xY0 := HY.out.cell (i := 0) rfl
            have xY1 := HY.out.cell (i := 1) rfl
            have xfY0 := HY.out.frozen 0
            have xfY1 := HY.out.frozen 1
            go_wp2_with fail
            clear x0 x1 x2 x3 x4 x5 x6 x7 y0 y1 y2 y3 y4 y5 y6 y7 p0 p1 p2 p3 p4 p5 p6 p7 z0 z1 z2 z3 z4 z5 z6 z7
            clear xY0 xY1 xfY0 xfY1
            refine HST.out.mono ?_; rintro e w5 ⟨v5, rfl, hR5, hb5⟩
            have hk0 := (show Blk w5 w.heap.size 33 [.int .i64 room1, .slice fa1 files1.length fc1, .slice da1 dir1.length dc1, .slice sa1 sure1.length sc1, .slice ca1 changes1.length cc1, .int .i64 steps1, .int .i64 left1, .slice pa1 plan1.length pc1] from (hb5.block _ HK0.out.lt).trans HK0.out)
            have hk1 := (show Blk w5 (w.heap.size + 1) 33 zeroC from (hb5.block _ HK1.out.lt).trans HK1.out)
            have hB := HB0.out.trans (hb5.mono HB0.out.size)
            clear HK0 HK1 HB0
            have HK0 := Lib.hid hk0
            have HK1 := Lib.hid hk1
            have HB0 := Lib.hid hB
            clear hk0 hk1 hB
            obtain ⟨fa5, fc5, da5, dc5, sa5, sc5, ca5, cc5, pa5, pc5, cvs5, rfl, -⟩ := hR5.parts
            have HR5 := Lib.hid (hR5.mono (Q := fun k => (P k ∧ k < w.heap.size) ∨ w.heap.size + 2 ≤ k) fun k hk => hk.elim .inl (fun h => .inr (by have := HW2.out; omega)))
            generalize setR ⟨room1, files1, dir1, sure1, changes1, steps1, left1, plan1⟩ k ((yd ++ b.extract 0 pn), ys) = T5 at *
            obtain ⟨room5, files5, dir5, sure5, changes5, steps5, left5, plan5⟩ := T5
            simp only at HR5 HO
            clear hR5 hb5 HST
            obtain ⟨x0, x1, x2, x3, x4, x5, x6, x7, y0, y1, y2, y3, y4, y5, y6, y7⟩ := HK0.out.fs
            obtain ⟨p0, p1, p2, p3, p4, p5, p6, p7, z0, z1, z2, z3, z4, z5, z6, z7⟩ := (show Blk _ (w.heap.size + 1) 33 [.int .i64 0, .slice none 0 0, .slice none 0 0, .slice none 0 0, .slice none 0 0, .int .i64 0, .int .i64 0, .slice none 0 0] from HK1.out).fs
            go_wp2_with fail
            have hkF := putFS_blk HK1.out (.int .i64 room5) (.slice fa5 files5.length fc5) (.slice da5 dir5.length dc5) (.slice sa5 sure5.length sc5) (.slice ca5 changes5.length cc5) (.int .i64 steps5) (.int .i64 left5) (.slice pa5 plan5.length pc5)
            obtain ⟨d0, d1, d2, d3, d4, d5, d6, d7, -⟩ := hkF.fs
            unfold putFS at d0 d1 d2 d3 d4 d5 d6 d7
            refine bodyPost_ret (v := .tuple #[.agg #[.int .i64 room5, .slice fa5 files5.length fc5, .slice da5 dir5.length dc5, .slice sa5 sure5.length sc5, .slice ca5 changes5.length cc5, .int .i64 steps5, .int .i64 left5, .slice pa5 plan5.length pc5], .int .i64 20]) (by simp [results, Try.results19, go_sem, d0, d1, d2, d3, d4, d5, d6, d7]) rfl ⟨_, by rw [HO.out], ?_, ?_⟩
            · rw [HO.out]; exact (HR5.out.to fun k hk => putFS_other (show k ≠ w.heap.size + 1 by rcases hk with hk | hk <;> omega) _ _ _ _ _ _ _ _).mono fun _ hk => hk.imp (fun h => h.1) (fun h => by omega)
            · exact putFS_below HB0.out (by omega) _ _ _ _ _ _ _ _
        · rw [show putR T2 T3 b.size L = ((0 : Nat) : Int) by unfold putR; rw [if_neg h3, if_neg hio]; rfl, Int.toNat_natCast, extract_none] at HO
          have HPN : Hid (0 ≤ b.size) := Nat.zero_le _
          by_cases h20 : T3 = 20
          · subst h20
            have ht : ¬ 2 < T2 := fun h => hio ⟨rfl, h⟩
            have hex : (b.extract 0 0).size ≤ b.size := by rw [ByteArray.size_extract]; omega
            have hcat : ¬ (9223372036854775807 < yd.size + (b.extract 0 0).size) := by have := HYB.out; have := HBS.out; omega
            have hcatb : ¬ (9223372036854775807 < yd.size + b.size) := by have := HYB.out; have := HBS.out; omega
            have lp : 0 ≤ b.size := HPN.out
            have xY0 := HY.out.cell (i := 0) rfl
            go_upto_region 19 with fail
            refine wp_region_quiet_tail 6 (by kernel_rfl) (by kernel_rfl) ?_
            simp only [List.take_succ_cons, List.take_zero, List.drop_succ_cons, List.drop_zero]
            repeat (go_big_quiet_step (fail))
            refine wpQuiet_nil ?_
            intro nq
            clear hex hcat hcatb lp xY0
            have xY0 := (HY.out.drewN nq).cell (i := 0) rfl
            have xfY0 := (HY.out.drewN nq).frozen 0
            go_upto_region 20 with fail
            refine wp_world fun w5' hw5 => ?_
            have hE : w.heap.size + 2 ≤ w1.heap.size := HEY.out
            have hk0 : Blk w5' w.heap.size 33 [.int .i64 room1, .slice fa1 files1.length fc1, .slice da1 dir1.length dc1, .slice sa1 sure1.length sc1, .slice ca1 changes1.length cc1, .int .i64 steps1, .int .i64 left1, .slice pa1 plan1.length pc1] := by rw [hw5]; exact (HK0.out.drewN nq).set_other (a := ⟨w1.heap.size, 0, none⟩) (show w.heap.size ≠ w1.heap.size by omega) _
            have hk1 : Blk w5' (w.heap.size + 1) 33 zeroC := by rw [hw5]; exact (HK1.out.drewN nq).set_other (a := ⟨w1.heap.size, 0, none⟩) (show w.heap.size + 1 ≠ w1.heap.size by omega) _
            have hky : Blk w5' w1.heap.size 75 [.string yd, .int .i64 ys] := by rw [hw5]; exact (HY.out.drewN nq).set 0 (.string yd)
            have hB5 : Below w.heap.size w w5' := by rw [hw5]; exact (Below.drewN HB0.out nq).setCell (p := ⟨w1.heap.size, 0, none⟩) (show w.heap.size ≤ w1.heap.size by omega) _
            have hR5 : RFs (fun k => P k ∧ k < w.heap.size) w5' (.agg #[.int .i64 room1, .slice fa1 files1.length fc1, .slice da1 dir1.length dc1, .slice sa1 sure1.length sc1, .slice ca1 changes1.length cc1, .int .i64 steps1, .int .i64 left1, .slice pa1 plan1.length pc1]) ⟨room1, files1, dir1, sure1, changes1, steps1, left1, plan1⟩ := HR2.out.to fun k hk => by rw [hw5, heap_setCell_other _ _ k _ (show k ≠ w1.heap.size by have := hk.2; omega)]; rfl
            clear hw5 xY0 xfY0 HK0 HK1 HY HB0 HR2 HKL hE
            have HB0 := Lib.hid hB5
            have HK0 := Lib.hid hk0
            have HK1 := Lib.hid hk1
            have HY := Lib.hid hky
            have HR2 := Lib.hid hR5
            have HKL := Lib.hid HKL1.out
            clear hB5 hk0 hk1 hky hR5
            have hST := refSet_any (P := fun k => P k ∧ k < w.heap.size) _ ⟨room1, files1, dir1, sure1, changes1, steps1, left1, plan1⟩ k (yd, ys) w5' HR2.out HKT.out HKL.out
            have HST := Lib.hid hST
            have HW2 : Hid (w.heap.size + 2 ≤ w5'.heap.size) := by show _ ≤ _; have := HK1.out.lt; omega
            clear hST
            obtain ⟨x0, x1, x2, x3, x4, x5, x6, x7, y0, y1, y2, y3, y4, y5, y6, y7⟩ := HK0.out.fs
            obtain ⟨p0, p1, p2, p3, p4, p5, p6, p7, z0, z1, z2, z3, z4, z5, z6, z7⟩ := (show Blk _ (w.heap.size + 1) 33 [.int .i64 0, .slice none 0 0, .slice none 0 0, .slice none 0 0, .slice none 0 0, .int .i64 0, .int .i64 0, .slice none 0 0] from HK1.out).fs
            have xY0 := HY.out.cell (i := 0) rfl
            have xY1 := HY.out.cell (i := 1) rfl
            have xfY0 := HY.out.frozen 0
            have xfY1 := HY.out.frozen 1
            go_wp2_with fail
            clear x0 x1 x2 x3 x4 x5 x6 x7 y0 y1 y2 y3 y4 y5 y6 y7 p0 p1 p2 p3 p4 p5 p6 p7 z0 z1 z2 z3 z4 z5 z6 z7
            clear xY0 xY1 xfY0 xfY1
            refine HST.out.mono ?_; rintro e w5 ⟨v5, rfl, hR5, hb5⟩
            have hk0 := (show Blk w5 w.heap.size 33 [.int .i64 room1, .slice fa1 files1.length fc1, .slice da1 dir1.length dc1, .slice sa1 sure1.length sc1, .slice ca1 changes1.length cc1, .int .i64 steps1, .int .i64 left1, .slice pa1 plan1.length pc1] from (hb5.block _ HK0.out.lt).trans HK0.out)
            have hk1 := (show Blk w5 (w.heap.size + 1) 33 zeroC from (hb5.block _ HK1.out.lt).trans HK1.out)
            have hB := HB0.out.trans (hb5.mono HB0.out.size)
            clear HK0 HK1 HB0
            have HK0 := Lib.hid hk0
            have HK1 := Lib.hid hk1
            have HB0 := Lib.hid hB
            clear hk0 hk1 hB
            obtain ⟨fa5, fc5, da5, dc5, sa5, sc5, ca5, cc5, pa5, pc5, cvs5, rfl, -⟩ := hR5.parts
            have HR5 := Lib.hid (hR5.mono (Q := fun k => (P k ∧ k < w.heap.size) ∨ w.heap.size + 2 ≤ k) fun k hk => hk.elim .inl (fun h => .inr (by have := HW2.out; omega)))
            generalize setR ⟨room1, files1, dir1, sure1, changes1, steps1, left1, plan1⟩ k (yd, ys) = T5 at *
            obtain ⟨room5, files5, dir5, sure5, changes5, steps5, left5, plan5⟩ := T5
            simp only at HR5 HO
            clear hR5 hb5 HST
            obtain ⟨x0, x1, x2, x3, x4, x5, x6, x7, y0, y1, y2, y3, y4, y5, y6, y7⟩ := HK0.out.fs
            obtain ⟨p0, p1, p2, p3, p4, p5, p6, p7, z0, z1, z2, z3, z4, z5, z6, z7⟩ := (show Blk _ (w.heap.size + 1) 33 [.int .i64 0, .slice none 0 0, .slice none 0 0, .slice none 0 0, .slice none 0 0, .int .i64 0, .int .i64 0, .slice none 0 0] from HK1.out).fs
            go_wp2_with fail
            have hkF := putFS_blk HK1.out (.int .i64 room5) (.slice fa5 files5.length fc5) (.slice da5 dir5.length dc5) (.slice sa5 sure5.length sc5) (.slice ca5 changes5.length cc5) (.int .i64 steps5) (.int .i64 left5) (.slice pa5 plan5.length pc5)
            obtain ⟨d0, d1, d2, d3, d4, d5, d6, d7, -⟩ := hkF.fs
            unfold putFS at d0 d1 d2 d3 d4 d5 d6 d7
            refine bodyPost_ret (v := .tuple #[.agg #[.int .i64 room5, .slice fa5 files5.length fc5, .slice da5 dir5.length dc5, .slice sa5 sure5.length sc5, .slice ca5 changes5.length cc5, .int .i64 steps5, .int .i64 left5, .slice pa5 plan5.length pc5], .int .i64 20]) (by simp [results, Try.results19, go_sem, d0, d1, d2, d3, d4, d5, d6, d7]) rfl ⟨_, by rw [HO.out], ?_, ?_⟩
            · rw [HO.out]; exact (HR5.out.to fun k hk => putFS_other (show k ≠ w.heap.size + 1 by rcases hk with hk | hk <;> omega) _ _ _ _ _ _ _ _).mono fun _ hk => hk.imp (fun h => h.1) (fun h => by omega)
            · exact putFS_below HB0.out (by omega) _ _ _ _ _ _ _ _
          · skip
            have hex : (b.extract 0 0).size ≤ b.size := by rw [ByteArray.size_extract]; omega
            have hcat : ¬ (9223372036854775807 < yd.size + (b.extract 0 0).size) := by have := HYB.out; have := HBS.out; omega
            have hcatb : ¬ (9223372036854775807 < yd.size + b.size) := by have := HYB.out; have := HBS.out; omega
            have lp : 0 ≤ b.size := HPN.out
            have xY0 := HY.out.cell (i := 0) rfl
            go_upto_region 19 with fail
            refine wp_region_quiet_tail 6 (by kernel_rfl) (by kernel_rfl) ?_
            simp only [List.take_succ_cons, List.take_zero, List.drop_succ_cons, List.drop_zero]
            repeat (go_big_quiet_step (fail))
            refine wpQuiet_nil ?_
            intro nq
            clear hex hcat hcatb lp xY0
            have xY0 := (HY.out.drewN nq).cell (i := 0) rfl
            have xfY0 := (HY.out.drewN nq).frozen 0
            go_upto_region 20 with fail
            refine wp_world fun w5' hw5 => ?_
            have hE : w.heap.size + 2 ≤ w1.heap.size := HEY.out
            have hk0 : Blk w5' w.heap.size 33 [.int .i64 room1, .slice fa1 files1.length fc1, .slice da1 dir1.length dc1, .slice sa1 sure1.length sc1, .slice ca1 changes1.length cc1, .int .i64 steps1, .int .i64 left1, .slice pa1 plan1.length pc1] := by rw [hw5]; exact (HK0.out.drewN nq).set_other (a := ⟨w1.heap.size, 0, none⟩) (show w.heap.size ≠ w1.heap.size by omega) _
            have hk1 : Blk w5' (w.heap.size + 1) 33 zeroC := by rw [hw5]; exact (HK1.out.drewN nq).set_other (a := ⟨w1.heap.size, 0, none⟩) (show w.heap.size + 1 ≠ w1.heap.size by omega) _
            have hky : Blk w5' w1.heap.size 75 [.string yd, .int .i64 ys] := by rw [hw5]; exact (HY.out.drewN nq).set 0 (.string yd)
            have hB5 : Below w.heap.size w w5' := by rw [hw5]; exact (Below.drewN HB0.out nq).setCell (p := ⟨w1.heap.size, 0, none⟩) (show w.heap.size ≤ w1.heap.size by omega) _
            have hR5 : RFs (fun k => P k ∧ k < w.heap.size) w5' (.agg #[.int .i64 room1, .slice fa1 files1.length fc1, .slice da1 dir1.length dc1, .slice sa1 sure1.length sc1, .slice ca1 changes1.length cc1, .int .i64 steps1, .int .i64 left1, .slice pa1 plan1.length pc1]) ⟨room1, files1, dir1, sure1, changes1, steps1, left1, plan1⟩ := HR2.out.to fun k hk => by rw [hw5, heap_setCell_other _ _ k _ (show k ≠ w1.heap.size by have := hk.2; omega)]; rfl
            clear hw5 xY0 xfY0 HK0 HK1 HY HB0 HR2 HKL hE
            have HB0 := Lib.hid hB5
            have HK0 := Lib.hid hk0
            have HK1 := Lib.hid hk1
            have HY := Lib.hid hky
            have HR2 := Lib.hid hR5
            have HKL := Lib.hid HKL1.out
            clear hB5 hk0 hk1 hky hR5
            have hST := refSet_any (P := fun k => P k ∧ k < w.heap.size) _ ⟨room1, files1, dir1, sure1, changes1, steps1, left1, plan1⟩ k (yd, ys) w5' HR2.out HKT.out HKL.out
            have HST := Lib.hid hST
            have HW2 : Hid (w.heap.size + 2 ≤ w5'.heap.size) := by show _ ≤ _; have := HK1.out.lt; omega
            clear hST
            obtain ⟨x0, x1, x2, x3, x4, x5, x6, x7, y0, y1, y2, y3, y4, y5, y6, y7⟩ := HK0.out.fs
            obtain ⟨p0, p1, p2, p3, p4, p5, p6, p7, z0, z1, z2, z3, z4, z5, z6, z7⟩ := (show Blk _ (w.heap.size + 1) 33 [.int .i64 0, .slice none 0 0, .slice none 0 0, .slice none 0 0, .slice none 0 0, .int .i64 0, .int .i64 0, .slice none 0 0] from HK1.out).fs
            have xY0 := HY.out.cell (i := 0) rfl
            have xY1 := HY.out.cell (i := 1) rfl
            have xfY0 := HY.out.frozen 0
            have xfY1 := HY.out.frozen 1
            go_wp2_with fail
            clear x0 x1 x2 x3 x4 x5 x6 x7 y0 y1 y2 y3 y4 y5 y6 y7 p0 p1 p2 p3 p4 p5 p6 p7 z0 z1 z2 z3 z4 z5 z6 z7
            clear xY0 xY1 xfY0 xfY1
            refine HST.out.mono ?_; rintro e w5 ⟨v5, rfl, hR5, hb5⟩
            have hk0 := (show Blk w5 w.heap.size 33 [.int .i64 room1, .slice fa1 files1.length fc1, .slice da1 dir1.length dc1, .slice sa1 sure1.length sc1, .slice ca1 changes1.length cc1, .int .i64 steps1, .int .i64 left1, .slice pa1 plan1.length pc1] from (hb5.block _ HK0.out.lt).trans HK0.out)
            have hk1 := (show Blk w5 (w.heap.size + 1) 33 zeroC from (hb5.block _ HK1.out.lt).trans HK1.out)
            have hB := HB0.out.trans (hb5.mono HB0.out.size)
            clear HK0 HK1 HB0
            have HK0 := Lib.hid hk0
            have HK1 := Lib.hid hk1
            have HB0 := Lib.hid hB
            clear hk0 hk1 hB
            obtain ⟨fa5, fc5, da5, dc5, sa5, sc5, ca5, cc5, pa5, pc5, cvs5, rfl, -⟩ := hR5.parts
            have HR5 := Lib.hid (hR5.mono (Q := fun k => (P k ∧ k < w.heap.size) ∨ w.heap.size + 2 ≤ k) fun k hk => hk.elim .inl (fun h => .inr (by have := HW2.out; omega)))
            generalize setR ⟨room1, files1, dir1, sure1, changes1, steps1, left1, plan1⟩ k (yd, ys) = T5 at *
            obtain ⟨room5, files5, dir5, sure5, changes5, steps5, left5, plan5⟩ := T5
            simp only at HR5 HO
            clear hR5 hb5 HST
            obtain ⟨x0, x1, x2, x3, x4, x5, x6, x7, y0, y1, y2, y3, y4, y5, y6, y7⟩ := HK0.out.fs
            obtain ⟨p0, p1, p2, p3, p4, p5, p6, p7, z0, z1, z2, z3, z4, z5, z6, z7⟩ := (show Blk _ (w.heap.size + 1) 33 [.int .i64 0, .slice none 0 0, .slice none 0 0, .slice none 0 0, .slice none 0 0, .int .i64 0, .int .i64 0, .slice none 0 0] from HK1.out).fs
            go_wp2_with fail
            have hkF := putFS_blk HK1.out (.int .i64 room5) (.slice fa5 files5.length fc5) (.slice da5 dir5.length dc5) (.slice sa5 sure5.length sc5) (.slice ca5 changes5.length cc5) (.int .i64 steps5) (.int .i64 left5) (.slice pa5 plan5.length pc5)
            obtain ⟨d0, d1, d2, d3, d4, d5, d6, d7, -⟩ := hkF.fs
            unfold putFS at d0 d1 d2 d3 d4 d5 d6 d7
            refine bodyPost_ret (v := .tuple #[.agg #[.int .i64 room5, .slice fa5 files5.length fc5, .slice da5 dir5.length dc5, .slice sa5 sure5.length sc5, .slice ca5 changes5.length cc5, .int .i64 steps5, .int .i64 left5, .slice pa5 plan5.length pc5], .int .i64 T3]) (by simp [results, Try.results19, go_sem, d0, d1, d2, d3, d4, d5, d6, d7]) rfl ⟨_, by rw [HO.out], ?_, ?_⟩
            · rw [HO.out]; exact (HR5.out.to fun k hk => putFS_other (show k ≠ w.heap.size + 1 by rcases hk with hk | hk <;> omega) _ _ _ _ _ _ _ _).mono fun _ hk => hk.imp (fun h => h.1) (fun h => by omega)
            · exact putFS_below HB0.out (by omega) _ _ _ _ _ _ _ _
  · rw [if_neg h2] at HO
    obtain ⟨x0, x1, x2, x3, x4, x5, x6, x7, y0, y1, y2, y3, y4, y5, y6, y7⟩ := HK0.out.fs
    obtain ⟨p0, p1, p2, p3, p4, p5, p6, p7, z0, z1, z2, z3, z4, z5, z6, z7⟩ := (show Blk _ (w.heap.size + 1) 33 [.int .i64 0, .slice none 0 0, .slice none 0 0, .slice none 0 0, .slice none 0 0, .int .i64 0, .int .i64 0, .slice none 0 0] from HK1.out).fs
    go_wp2_with fail
    have hkF := putFS_blk HK1.out (.int .i64 R.room) (.slice fa R.files.length fc) (.slice da R.dir.length dc) (.slice sa R.sure.length sc) (.slice ca R.changes.length cc) (.int .i64 R.steps) (.int .i64 R.left) (.slice pa R.plan.length pc)
    obtain ⟨d0, d1, d2, d3, d4, d5, d6, d7, -⟩ := hkF.fs
    unfold putFS at d0 d1 d2 d3 d4 d5 d6 d7
    refine bodyPost_ret (v := .tuple #[.agg #[.int .i64 R.room, .slice fa R.files.length fc, .slice da R.dir.length dc, .slice sa R.sure.length sc, .slice ca R.changes.length cc, .int .i64 R.steps, .int .i64 R.left, .slice pa R.plan.length pc], .int .i64 q2]) (by simp [results, Try.results19, go_sem, d0, d1, d2, d3, d4, d5, d6, d7]) rfl ⟨_, by rw [HO.out], ?_, ?_⟩
    · rw [HO.out]; exact ((HP.out.below HB0.out).to fun k hk => putFS_other (show k ≠ w.heap.size + 1 by have := hk.2; omega) _ _ _ _ _ _ _ _).mono fun _ hk => .inl hk.1
    · exact putFS_below HB0.out (by omega) _ _ _ _ _ _ _ _
end Go.Proofs.Ytpfbiijcmmkjlaa
