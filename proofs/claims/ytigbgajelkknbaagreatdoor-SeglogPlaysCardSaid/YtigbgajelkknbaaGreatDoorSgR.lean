/- The reference's segments: 'Create', 'Append', and how they go with the program's. -/
import Derived.Test.YtigbgajelkknbaaGreatDoorSgS
import Derived.Test.YtigbgajelkknbaaGreatDoorFsTp
namespace Go.Proofs.YtigbgajelkknbaaGreatDoor
open Go.RowKit
set_option maxRecDepth 100000

theorem blk_on {w w' : World} {g t : Nat} {vs : List Value} (hb : Below w.heap.size w w') (h : Blk w g t vs) : Blk w' g t vs := (hb.block _ h.lt).trans h
/-- The reference's file system in a box of a call's own, and an empty one for what it answers. -/
structure BoxI (P : Nat → Prop) (w0 w : World) (R : RSt) (a0 a1 a2 a3 a4 a5 a6 a7 : Value) : Prop where
  below : Below w0.heap.size w0 w
  b0 : Blk w w0.heap.size 33 [a0, a1, a2, a3, a4, a5, a6, a7]
  b1 : Blk w (w0.heap.size + 1) 33 [.int .i64 0, .slice none 0 0, .slice none 0 0, .slice none 0 0, .slice none 0 0, .int .i64 0, .int .i64 0, .slice none 0 0]
  rfs : RFs (fun k => P k ∧ k < w0.heap.size ∨ w0.heap.size + 2 ≤ k) w (.agg #[a0, a1, a2, a3, a4, a5, a6, a7]) R
section
variable {P : Nat → Prop} {w0 w w' : World} {R R' : RSt} {a0 a1 a2 a3 a4 a5 a6 a7 c0 c1 c2 c3 c4 c5 c6 c7 : Value}
theorem BoxI.start (h : RFs P w0 (.agg #[a0, a1, a2, a3, a4, a5, a6, a7]) R) (hw : w = (w0.alloc (.cells #[a0, a1, a2, a3, a4, a5, a6, a7] 33)).alloc (.cells #[.int .i64 0, .slice none 0 0, .slice none 0 0, .slice none 0 0, .slice none 0 0, .int .i64 0, .int .i64 0, .slice none 0 0] 33)) : BoxI P w0 w R a0 a1 a2 a3 a4 a5 a6 a7 := by
  have hb : Below w0.heap.size w0 w := by rw [hw]; exact ((Below.refl _ _).alloc (Nat.le_refl _) _).alloc (by simp) _
  refine ⟨hb, by rw [hw]; exact (Blk.new w0 33 [a0, a1, a2, a3, a4, a5, a6, a7]).alloc _, ?_, (h.lt.below hb).mono fun k hk => .inl hk⟩
  rw [hw]
  have := Blk.new (w0.alloc (.cells #[a0, a1, a2, a3, a4, a5, a6, a7] 33)) 33 [.int .i64 0, .slice none 0 0, .slice none 0 0, .slice none 0 0, .slice none 0 0, .int .i64 0, .int .i64 0, .slice none 0 0]
  rw [World.size_alloc] at this
  exact this
theorem BoxI.keep (h : BoxI P w0 w R a0 a1 a2 a3 a4 a5 a6 a7) (hb : Below w.heap.size w w') : BoxI P w0 w' R a0 a1 a2 a3 a4 a5 a6 a7 :=
  ⟨h.below.trans (hb.mono h.below.size), blk_on hb h.b0, blk_on hb h.b1, h.rfs.below hb⟩
theorem BoxI.size (h : BoxI P w0 w R a0 a1 a2 a3 a4 a5 a6 a7) : w0.heap.size + 2 ≤ w.heap.size := by have := h.b1.lt; omega
theorem BoxI.put (h : BoxI P w0 w R a0 a1 a2 a3 a4 a5 a6 a7) (hb : Below w.heap.size w w') (hr : RFs (fun k => (P k ∧ k < w0.heap.size ∨ w0.heap.size + 2 ≤ k) ∨ w.heap.size ≤ k) w' (.agg #[c0, c1, c2, c3, c4, c5, c6, c7]) R') : BoxI P w0 (putFS w' w0.heap.size c0 c1 c2 c3 c4 c5 c6 c7) R' c0 c1 c2 c3 c4 c5 c6 c7 := by
  have h' := h.keep hb
  have hz := h.size
  refine ⟨putFS_below h'.below (Nat.le_refl _) _ _ _ _ _ _ _ _, putFS_blk h'.b0 _ _ _ _ _ _ _ _, (putFS_other (w := w') (show w0.heap.size + 1 ≠ w0.heap.size by omega) _ _ _ _ _ _ _ _).trans h'.b1, ?_⟩
  have hq : RFs (fun k => P k ∧ k < w0.heap.size ∨ w0.heap.size + 2 ≤ k) w' (.agg #[c0, c1, c2, c3, c4, c5, c6, c7]) R' := hr.mono fun k hk => hk.elim id fun h => .inr (by omega)
  exact hq.to fun k hk => putFS_other (by rcases hk with ⟨_, h⟩ | h <;> omega) _ _ _ _ _ _ _ _
theorem BoxI.last (h : BoxI P w0 w R a0 a1 a2 a3 a4 a5 a6 a7) (hb : Below w.heap.size w w') (hr : RFs (fun k => (P k ∧ k < w0.heap.size ∨ w0.heap.size + 2 ≤ k) ∨ w.heap.size ≤ k) w' (.agg #[c0, c1, c2, c3, c4, c5, c6, c7]) R') :
    RFs (fun k => P k ∨ w0.heap.size ≤ k) (putFS w' (w0.heap.size + 1) c0 c1 c2 c3 c4 c5 c6 c7) (.agg #[c0, c1, c2, c3, c4, c5, c6, c7]) R' ∧ Below w0.heap.size w0 (putFS w' (w0.heap.size + 1) c0 c1 c2 c3 c4 c5 c6 c7) ∧ Blk (putFS w' (w0.heap.size + 1) c0 c1 c2 c3 c4 c5 c6 c7) (w0.heap.size + 1) 33 [c0, c1, c2, c3, c4, c5, c6, c7] := by
  have h' := h.keep hb
  have hz := h.size
  have hq : RFs (fun k => P k ∧ k < w0.heap.size ∨ w0.heap.size + 2 ≤ k) w' (.agg #[c0, c1, c2, c3, c4, c5, c6, c7]) R' := hr.mono fun k hk => hk.elim id fun h => .inr (by omega)
  exact ⟨(hq.to (w' := putFS w' (w0.heap.size + 1) c0 c1 c2 c3 c4 c5 c6 c7) fun k hk => putFS_other (by rcases hk with ⟨_, h⟩ | h <;> omega) _ _ _ _ _ _ _ _).mono fun k hk => hk.elim (fun h => .inl h.1) fun h => .inr (by omega), putFS_below h'.below (by omega) _ _ _ _ _ _ _ _, putFS_blk h'.b1 _ _ _ _ _ _ _ _⟩
theorem BoxI.same (h : BoxI P w0 w R a0 a1 a2 a3 a4 a5 a6 a7) :
    RFs (fun k => P k ∨ w0.heap.size ≤ k) (putFS w (w0.heap.size + 1) a0 a1 a2 a3 a4 a5 a6 a7) (.agg #[a0, a1, a2, a3, a4, a5, a6, a7]) R ∧ Below w0.heap.size w0 (putFS w (w0.heap.size + 1) a0 a1 a2 a3 a4 a5 a6 a7) ∧ Blk (putFS w (w0.heap.size + 1) a0 a1 a2 a3 a4 a5 a6 a7) (w0.heap.size + 1) 33 [a0, a1, a2, a3, a4, a5, a6, a7] :=
  h.last (Below.refl _ _) (h.rfs.mono fun _ hk => .inl hk)
end
/-- 'Create' of the reference. -/
def segCreateR (R : RSt) (id : Int) : RSt × Int :=
  if codeN id = 0 then (if (createR R (nameV id)).2 = 0 then syncDirR (createR R (nameV id)).1 else createR R (nameV id)) else (R, codeN id)
set_option maxHeartbeats 4000000 in
theorem refSegCreate_any {P : Nat → Prop} (v : Value) (R : RSt) (id : Int) (w : World) (h : RFs P w v R) (hk : ROk R) (hk2 : ROk (createR R (nameV id)).1) (hks : R.steps < 4611686018427387903) (hkf : R.files.length < 4000) :
    Calls Tryz.prog 15 #[v, .int .i64 id] w fun e w' => ∃ v', e = .returned (.tuple #[v', .int .i64 (segCreateR R id).2]) ∧ RFs (fun k => P k ∨ w.heap.size ≤ k) w' v' (segCreateR R id).1 ∧ Below w.heap.size w w' := by
  have HNM := Lib.hid (fun (w1 : World) => refName_any id w1)
  have hsz := nameV_size id
  have HCR := Lib.hid (fun (w1 : World) (v1 : Value) (Q : Nat → Prop) (h1 : RFs Q w1 v1 R) => refCreate_any v1 R (nameV id) w1 h1 hk hks hkf (by omega))
  have HDI := Lib.hid (fun (w2 : World) (v2 : Value) (Q : Nat → Prop) (h2 : RFs Q w2 v2 (createR R (nameV id)).1) => refSyncDir_any v2 _ w2 h2 hk2)
  have HSG : Hid (segCreateR R id = if codeN id = 0 then (if (createR R (nameV id)).2 = 0 then syncDirR (createR R (nameV id)).1 else createR R (nameV id)) else (R, codeN id)) := Lib.hid rfl
  clear hk hk2 hks hkf
  generalize segCreateR R id = Z at *
  generalize codeN id = cn at HNM HSG
  generalize nameV id = nm at *
  generalize createR R nm = C at *
  obtain ⟨R2, z2⟩ := C
  simp only at HCR HDI HSG
  generalize syncDirR R2 = D at *
  obtain ⟨R3, z3⟩ := D
  simp only at HDI HSG
  obtain ⟨fa, fc, da, dc, sa, sc, ca, cc, pa, pc, cvs, rfl, -⟩ := h.parts
  have HH := Lib.hid h
  clear h
  go_enter Tryz.func15, Tryz.ntmps15
  go_wp2_with fail
  refine calls_world fun w0 hw0 => ?_
  have hx0 := BoxI.start HH.out hw0
  clear hw0
  refine (HNM.out w0).mono ?_; rintro e w1 ⟨rfl, hb1⟩
  have HX := Lib.hid (hx0.keep hb1)
  clear hb1 hx0 HNM
  obtain ⟨x0, x1, x2, x3, x4, x5, x6, x7, y0, y1, y2, y3, y4, y5, y6, y7⟩ := HX.out.b0.fs
  obtain ⟨p0, p1, p2, p3, p4, p5, p6, p7, q0, q1, q2, q3, q4, q5, q6, q7⟩ := HX.out.b1.fs
  by_cases hc : cn = 0
  · subst hc
    rw [if_pos rfl] at HSG
    go_wp2_with fail
    refine (HCR.out w1 _ _ HX.out.rfs).mono ?_; rintro e w2 ⟨v2, rfl, hr2, hb2⟩
    obtain ⟨fa2, fc2, da2, dc2, sa2, sc2, ca2, cc2, pa2, pc2, cvs2, rfl, -⟩ := hr2.parts
    have HR2 := Lib.hid hr2
    have HB2 := Lib.hid hb2
    clear x0 x1 x2 x3 x4 x5 x6 x7 y0 y1 y2 y3 y4 y5 y6 y7 p0 p1 p2 p3 p4 p5 p6 p7 q0 q1 q2 q3 q4 q5 q6 q7
    have HX2 := Lib.hid (HX.out.put hb2 hr2)
    have HK2 := Lib.hid (HX.out.keep hb2)
    clear hr2 hb2 HCR
    obtain ⟨x0, x1, x2, x3, x4, x5, x6, x7, y0, y1, y2, y3, y4, y5, y6, y7⟩ := HK2.out.b0.fs
    obtain ⟨p0, p1, p2, p3, p4, p5, p6, p7, q0, q1, q2, q3, q4, q5, q6, q7⟩ := HK2.out.b1.fs
    go_upto_region 5 with fail
    refine wp_world fun w3 hw3 => ?_
    have HX3 : Hid (BoxI P w w3 R2 (.int .i64 R2.room) (.slice fa2 R2.files.length fc2) (.slice da2 R2.dir.length dc2) (.slice sa2 R2.sure.length sc2) (.slice ca2 R2.changes.length cc2) (.int .i64 R2.steps) (.int .i64 R2.left) (.slice pa2 R2.plan.length pc2)) := by show BoxI _ _ _ _ _ _ _ _ _ _ _ _; rw [hw3]; exact HX2.out
    clear x0 x1 x2 x3 x4 x5 x6 x7 y0 y1 y2 y3 y4 y5 y6 y7 p0 p1 p2 p3 p4 p5 p6 p7 q0 q1 q2 q3 q4 q5 q6 q7
    clear hw3 HX2 HK2 HR2 HB2 HX HH
    obtain ⟨x0, x1, x2, x3, x4, x5, x6, x7, y0, y1, y2, y3, y4, y5, y6, y7⟩ := HX3.out.b0.fs
    obtain ⟨p0, p1, p2, p3, p4, p5, p6, p7, q0, q1, q2, q3, q4, q5, q6, q7⟩ := HX3.out.b1.fs
    by_cases hc2 : z2 = 0
    · subst hc2
      rw [if_pos rfl] at HSG
      go_wp2_with fail
      refine (HDI.out w3 _ _ HX3.out.rfs).mono ?_; rintro e w4 ⟨v4, rfl, hr4, hb4⟩
      obtain ⟨fa4, fc4, da4, dc4, sa4, sc4, ca4, cc4, pa4, pc4, cvs4, rfl, -⟩ := hr4.parts
      clear x0 x1 x2 x3 x4 x5 x6 x7 y0 y1 y2 y3 y4 y5 y6 y7 p0 p1 p2 p3 p4 p5 p6 p7 q0 q1 q2 q3 q4 q5 q6 q7
      have HL := Lib.hid (HX3.out.last hb4 (hr4.mono fun _ hk => .inl hk))
      have HK4 := Lib.hid (HX3.out.keep hb4)
      clear hr4 hb4 HDI
      obtain ⟨x0, x1, x2, x3, x4, x5, x6, x7, y0, y1, y2, y3, y4, y5, y6, y7⟩ := HK4.out.b0.fs
      obtain ⟨p0, p1, p2, p3, p4, p5, p6, p7, q0, q1, q2, q3, q4, q5, q6, q7⟩ := HK4.out.b1.fs
      go_wp2_with fail
      obtain ⟨hr, hb, hk⟩ := HL.out
      obtain ⟨d0, d1, d2, d3, d4, d5, d6, d7, -⟩ := hk.fs
      unfold putFS at d0 d1 d2 d3 d4 d5 d6 d7
      exact bodyPost_ret (v := .tuple #[.agg #[.int .i64 R3.room, .slice fa4 R3.files.length fc4, .slice da4 R3.dir.length dc4, .slice sa4 R3.sure.length sc4, .slice ca4 R3.changes.length cc4, .int .i64 R3.steps, .int .i64 R3.left, .slice pa4 R3.plan.length pc4], .int .i64 z3]) (by simp [results, Tryz.results15, go_sem, d0, d1, d2, d3, d4, d5, d6, d7]) rfl ⟨_, by rw [HSG.out], by rw [HSG.out]; exact hr, hb⟩
    · have hc2' : (z2 == 0) = false := by simpa using hc2
      rw [if_neg hc2] at HSG
      clear hc2 HDI
      go_wp2_with fail
      obtain ⟨hr, hb, hk⟩ := HX3.out.same
      obtain ⟨d0, d1, d2, d3, d4, d5, d6, d7, -⟩ := hk.fs
      unfold putFS at d0 d1 d2 d3 d4 d5 d6 d7
      exact bodyPost_ret (v := .tuple #[.agg #[.int .i64 R2.room, .slice fa2 R2.files.length fc2, .slice da2 R2.dir.length dc2, .slice sa2 R2.sure.length sc2, .slice ca2 R2.changes.length cc2, .int .i64 R2.steps, .int .i64 R2.left, .slice pa2 R2.plan.length pc2], .int .i64 z2]) (by simp [results, Tryz.results15, go_sem, d0, d1, d2, d3, d4, d5, d6, d7]) rfl ⟨_, by rw [HSG.out], by rw [HSG.out]; exact hr, hb⟩
  · have hc' : (cn == 0) = false := by simpa using hc
    rw [if_neg hc] at HSG
    clear hc HCR HDI
    go_wp2_with fail
    obtain ⟨hr, hb, hk⟩ := HX.out.same
    obtain ⟨d0, d1, d2, d3, d4, d5, d6, d7, -⟩ := hk.fs
    unfold putFS at d0 d1 d2 d3 d4 d5 d6 d7
    exact bodyPost_ret (v := .tuple #[.agg #[.int .i64 R.room, .slice fa R.files.length fc, .slice da R.dir.length dc, .slice sa R.sure.length sc, .slice ca R.changes.length cc, .int .i64 R.steps, .int .i64 R.left, .slice pa R.plan.length pc], .int .i64 cn]) (by simp [results, Tryz.results15, go_sem, d0, d1, d2, d3, d4, d5, d6, d7]) rfl ⟨_, by rw [HSG.out], by rw [HSG.out]; exact hr, hb⟩
/-- What the reference says of a frame. -/
theorem refEnc_all (k : Int) (p : List Int) (w : World) (hy : Fr.Byt p) :
    Calls Tryz.prog 64 #[.int .i64 k, .string (strOfNums p)] w fun e w' => ∃ b, e = .returned (.tuple #[.string b, .int .i64 (encC k p.length)]) ∧ (encC k p.length = 0 → b = strOfNums (Fr.frameI k p)) ∧ Below w.heap.size w w' := by
  by_cases hk : 1 ≤ k ∧ k ≤ 9
  · by_cases hl : p.length ≤ 8192
    · have hc : encC k p.length = 0 := by unfold encC; rw [if_pos hk, if_pos hl]
      rw [hc]
      exact (Fr.refEncode_any k p w hk.1 hk.2 hy hl).mono fun e w' ⟨he, hb⟩ => ⟨_, he, fun _ => rfl, hb⟩
    · have hc : encC k p.length = 5 := by unfold encC; rw [if_pos hk, if_neg hl]
      rw [hc]
      refine (Fr.refEncode_long k (strOfNums p) w hk.1 hk.2 p.length (strOfNums_size p) (by omega)).mono fun e w' ⟨he, hb⟩ => ?_
      subst hb
      exact ⟨_, he, fun h => absurd h (by decide), Below.refl _ _⟩
  · have hc : encC k p.length = 1 := by unfold encC; rw [if_neg hk]
    rw [hc]
    refine (Fr.refEncode_bad k (strOfNums p) w hk).mono fun e w' ⟨he, hb⟩ => ?_
    subst hb
    exact ⟨_, he, fun h => absurd h (by decide), Below.refl _ _⟩
/-- 'Append' of the reference. -/
def segAppendR (R : RSt) (id k : Int) (p : List Int) : RSt × Int :=
  if codeN id = 0 then if encC k p.length = 0 then (if (appendR R (nameV id) (strOfNums (Fr.frameI k p))).2 = 0 then syncR (appendR R (nameV id) (strOfNums (Fr.frameI k p))).1 (nameV id) else appendR R (nameV id) (strOfNums (Fr.frameI k p))) else (R, encC k p.length) else (R, codeN id)
set_option maxHeartbeats 4000000 in
theorem refSegAppend_any {P : Nat → Prop} (v : Value) (R : RSt) (id k : Int) (p : List Int) (w : World) (h : RFs P w v R) (hy : Fr.Byt p) (hk : ROk R) (hw : RWell R) (hk2 : ROk (appendR R (nameV id) (strOfNums (Fr.frameI k p))).1) (hw2 : RWell (appendR R (nameV id) (strOfNums (Fr.frameI k p))).1)
    (hks : R.steps < 4611686018427387903) (hks2 : (appendR R (nameV id) (strOfNums (Fr.frameI k p))).1.steps < 4611686018427387903) (hrm : 0 ≤ R.room ∧ R.room ≤ 1048576) (hpl : ∀ k ∈ R.plan, k ≤ 9223372036854775807) :
    Calls Tryz.prog 17 #[v, .int .i64 id, .int .i64 k, .string (strOfNums p)] w fun e w' => ∃ v', e = .returned (.tuple #[v', .int .i64 (segAppendR R id k p).2]) ∧ RFs (fun k => P k ∨ w.heap.size ≤ k) w' v' (segAppendR R id k p).1 ∧ Below w.heap.size w w' := by
  have HNM := Lib.hid (fun (w1 : World) => refName_any id w1)
  have hsz := nameV_size id
  have HEN := Lib.hid (fun (w1 : World) => refEnc_all k p w1 hy)
  have HAP := Lib.hid (fun (w1 : World) (v1 : Value) (Q : Nat → Prop) (h1 : RFs Q w1 v1 R) (hle : encC k p.length = 0) => refAppend_any v1 R (nameV id) (strOfNums (Fr.frameI k p)) w1 h1 hk hks hw hrm hpl (by omega) (by have := (encC_zero hle).2.2; rw [strOfNums_size, Fr.frameI_length]; omega))
  have HSY := Lib.hid (fun (w2 : World) (v2 : Value) (Q : Nat → Prop) (h2 : RFs Q w2 v2 (appendR R (nameV id) (strOfNums (Fr.frameI k p))).1) => refSync_any v2 _ (nameV id) w2 h2 hk2 hks2 hw2 (by omega))
  have HSG : Hid (segAppendR R id k p = if codeN id = 0 then if encC k p.length = 0 then (if (appendR R (nameV id) (strOfNums (Fr.frameI k p))).2 = 0 then syncR (appendR R (nameV id) (strOfNums (Fr.frameI k p))).1 (nameV id) else appendR R (nameV id) (strOfNums (Fr.frameI k p))) else (R, encC k p.length) else (R, codeN id)) := Lib.hid rfl
  clear hk hw hk2 hw2 hks hks2 hrm hpl hy
  generalize segAppendR R id k p = Z at *
  generalize codeN id = cn at HNM HSG
  generalize encC k p.length = ce at *
  generalize nameV id = nm at *
  generalize strOfNums (Fr.frameI k p) = fr at *
  generalize strOfNums p = pl at *
  generalize appendR R nm fr = C at *
  obtain ⟨R2, z2⟩ := C
  simp only at HAP HSY HSG
  generalize syncR R2 nm = D at *
  obtain ⟨R3, z3⟩ := D
  simp only at HSY HSG
  obtain ⟨fa, fc, da, dc, sa, sc, ca, cc, pa, pc, cvs, rfl, -⟩ := h.parts
  have HH := Lib.hid h
  clear h
  go_enter Tryz.func17, Tryz.ntmps17
  go_wp2_with fail
  refine calls_world fun w0 hw0 => ?_
  have hx0 := BoxI.start HH.out hw0
  clear hw0
  refine (HNM.out w0).mono ?_; rintro e w1 ⟨rfl, hb1⟩
  have HX := Lib.hid (hx0.keep hb1)
  clear hb1 hx0 HNM
  obtain ⟨x0, x1, x2, x3, x4, x5, x6, x7, y0, y1, y2, y3, y4, y5, y6, y7⟩ := HX.out.b0.fs
  obtain ⟨p0, p1, p2, p3, p4, p5, p6, p7, q0, q1, q2, q3, q4, q5, q6, q7⟩ := HX.out.b1.fs
  by_cases hc : cn = 0
  · subst hc
    rw [if_pos rfl] at HSG
    go_wp2_with fail
    refine (HEN.out w1).mono ?_; rintro e w2 ⟨b, rfl, hbe, hb2⟩
    clear x0 x1 x2 x3 x4 x5 x6 x7 y0 y1 y2 y3 y4 y5 y6 y7 p0 p1 p2 p3 p4 p5 p6 p7 q0 q1 q2 q3 q4 q5 q6 q7
    have HY := Lib.hid (HX.out.keep hb2)
    clear hb2 HX HEN
    obtain ⟨x0, x1, x2, x3, x4, x5, x6, x7, y0, y1, y2, y3, y4, y5, y6, y7⟩ := HY.out.b0.fs
    obtain ⟨p0, p1, p2, p3, p4, p5, p6, p7, q0, q1, q2, q3, q4, q5, q6, q7⟩ := HY.out.b1.fs
    by_cases hce : ce = 0
    · obtain rfl := hbe hce
      have HAQ := Lib.hid (fun (v1 : Value) (Q : Nat → Prop) (h1 : RFs Q w2 v1 R) => HAP.out w2 v1 Q h1 hce)
      subst hce
      rw [if_pos rfl] at HSG
      clear hbe HAP
      go_wp2_with fail
      refine (HAQ.out _ _ HY.out.rfs).mono ?_; rintro e wa ⟨v2, rfl, hr2, hb2⟩
      obtain ⟨fa2, fc2, da2, dc2, sa2, sc2, ca2, cc2, pa2, pc2, cvs2, rfl, -⟩ := hr2.parts
      clear x0 x1 x2 x3 x4 x5 x6 x7 y0 y1 y2 y3 y4 y5 y6 y7 p0 p1 p2 p3 p4 p5 p6 p7 q0 q1 q2 q3 q4 q5 q6 q7
      have HX2 := Lib.hid (HY.out.put hb2 hr2)
      have HK2 := Lib.hid (HY.out.keep hb2)
      clear hr2 hb2 HAQ
      obtain ⟨x0, x1, x2, x3, x4, x5, x6, x7, y0, y1, y2, y3, y4, y5, y6, y7⟩ := HK2.out.b0.fs
      obtain ⟨p0, p1, p2, p3, p4, p5, p6, p7, q0, q1, q2, q3, q4, q5, q6, q7⟩ := HK2.out.b1.fs
      go_upto_region 8 with fail
      refine wp_world fun w3 hw3 => ?_
      have HX3 : Hid (BoxI P w w3 R2 (.int .i64 R2.room) (.slice fa2 R2.files.length fc2) (.slice da2 R2.dir.length dc2) (.slice sa2 R2.sure.length sc2) (.slice ca2 R2.changes.length cc2) (.int .i64 R2.steps) (.int .i64 R2.left) (.slice pa2 R2.plan.length pc2)) := by show BoxI _ _ _ _ _ _ _ _ _ _ _ _; rw [hw3]; exact HX2.out
      clear x0 x1 x2 x3 x4 x5 x6 x7 y0 y1 y2 y3 y4 y5 y6 y7 p0 p1 p2 p3 p4 p5 p6 p7 q0 q1 q2 q3 q4 q5 q6 q7
      clear hw3 HX2 HK2 HY HH
      obtain ⟨x0, x1, x2, x3, x4, x5, x6, x7, y0, y1, y2, y3, y4, y5, y6, y7⟩ := HX3.out.b0.fs
      obtain ⟨p0, p1, p2, p3, p4, p5, p6, p7, q0, q1, q2, q3, q4, q5, q6, q7⟩ := HX3.out.b1.fs
      by_cases hc2 : z2 = 0
      · subst hc2
        rw [if_pos rfl] at HSG
        go_wp2_with fail
        refine (HSY.out w3 _ _ HX3.out.rfs).mono ?_; rintro e w4 ⟨v4, rfl, hr4, hb4⟩
        obtain ⟨fa4, fc4, da4, dc4, sa4, sc4, ca4, cc4, pa4, pc4, cvs4, rfl, -⟩ := hr4.parts
        clear x0 x1 x2 x3 x4 x5 x6 x7 y0 y1 y2 y3 y4 y5 y6 y7 p0 p1 p2 p3 p4 p5 p6 p7 q0 q1 q2 q3 q4 q5 q6 q7
        have HL := Lib.hid (HX3.out.last hb4 hr4)
        have HK4 := Lib.hid (HX3.out.keep hb4)
        clear hr4 hb4 HSY
        obtain ⟨x0, x1, x2, x3, x4, x5, x6, x7, y0, y1, y2, y3, y4, y5, y6, y7⟩ := HK4.out.b0.fs
        obtain ⟨p0, p1, p2, p3, p4, p5, p6, p7, q0, q1, q2, q3, q4, q5, q6, q7⟩ := HK4.out.b1.fs
        go_wp2_with fail
        obtain ⟨hr, hb, hk⟩ := HL.out
        obtain ⟨d0, d1, d2, d3, d4, d5, d6, d7, -⟩ := hk.fs
        unfold putFS at d0 d1 d2 d3 d4 d5 d6 d7
        exact bodyPost_ret (v := .tuple #[.agg #[.int .i64 R3.room, .slice fa4 R3.files.length fc4, .slice da4 R3.dir.length dc4, .slice sa4 R3.sure.length sc4, .slice ca4 R3.changes.length cc4, .int .i64 R3.steps, .int .i64 R3.left, .slice pa4 R3.plan.length pc4], .int .i64 z3]) (by simp [results, Tryz.results17, go_sem, d0, d1, d2, d3, d4, d5, d6, d7]) rfl ⟨_, by rw [HSG.out], by rw [HSG.out]; exact hr, hb⟩
      · have hc2' : (z2 == 0) = false := by simpa using hc2
        rw [if_neg hc2] at HSG
        clear hc2 HSY
        go_wp2_with fail
        obtain ⟨hr, hb, hk⟩ := HX3.out.same
        obtain ⟨d0, d1, d2, d3, d4, d5, d6, d7, -⟩ := hk.fs
        unfold putFS at d0 d1 d2 d3 d4 d5 d6 d7
        exact bodyPost_ret (v := .tuple #[.agg #[.int .i64 R2.room, .slice fa2 R2.files.length fc2, .slice da2 R2.dir.length dc2, .slice sa2 R2.sure.length sc2, .slice ca2 R2.changes.length cc2, .int .i64 R2.steps, .int .i64 R2.left, .slice pa2 R2.plan.length pc2], .int .i64 z2]) (by simp [results, Tryz.results17, go_sem, d0, d1, d2, d3, d4, d5, d6, d7]) rfl ⟨_, by rw [HSG.out], by rw [HSG.out]; exact hr, hb⟩
    · have hce' : (ce == 0) = false := by simpa using hce
      rw [if_neg hce] at HSG
      clear hce hbe HAP HSY
      go_wp2_with fail
      obtain ⟨hr, hb, hk⟩ := HY.out.same
      obtain ⟨d0, d1, d2, d3, d4, d5, d6, d7, -⟩ := hk.fs
      unfold putFS at d0 d1 d2 d3 d4 d5 d6 d7
      exact bodyPost_ret (v := .tuple #[.agg #[.int .i64 R.room, .slice fa R.files.length fc, .slice da R.dir.length dc, .slice sa R.sure.length sc, .slice ca R.changes.length cc, .int .i64 R.steps, .int .i64 R.left, .slice pa R.plan.length pc], .int .i64 ce]) (by simp [results, Tryz.results17, go_sem, d0, d1, d2, d3, d4, d5, d6, d7]) rfl ⟨_, by rw [HSG.out], by rw [HSG.out]; exact hr, hb⟩
  · have hc' : (cn == 0) = false := by simpa using hc
    rw [if_neg hc] at HSG
    clear hc HAP HSY HEN
    go_wp2_with fail
    obtain ⟨hr, hb, hk⟩ := HX.out.same
    obtain ⟨d0, d1, d2, d3, d4, d5, d6, d7, -⟩ := hk.fs
    unfold putFS at d0 d1 d2 d3 d4 d5 d6 d7
    exact bodyPost_ret (v := .tuple #[.agg #[.int .i64 R.room, .slice fa R.files.length fc, .slice da R.dir.length dc, .slice sa R.sure.length sc, .slice ca R.changes.length cc, .int .i64 R.steps, .int .i64 R.left, .slice pa R.plan.length pc], .int .i64 cn]) (by simp [results, Tryz.results17, go_sem, d0, d1, d2, d3, d4, d5, d6, d7]) rfl ⟨_, by rw [HSG.out], by rw [HSG.out]; exact hr, hb⟩
section
variable {A : FsA} {R : RSt} {n : Nat}
theorem sim_segCreate (h : Sim A R) (hI : Inv A n) (id : Int) {b : Nat} (hb : A.file b = none) : Sim (segCreateA A id b).1 (segCreateR R id).1 ∧ (segCreateR R id).2 = (segCreateA A id b).2 := by
  obtain ⟨h1, h2⟩ := sim_create h hI (nameV id) hb
  unfold segCreateA segCreateR
  by_cases hc : codeN id = 0
  · rw [if_pos hc, if_pos hc]
    by_cases hc2 : (createA A (nameV id) b).2 = 0
    · rw [if_pos hc2, if_pos (by rw [h2]; exact hc2)]
      exact sim_dir h1 (inv_create hI _ b)
    · rw [if_neg hc2, if_neg (by rw [h2]; exact hc2)]
      exact ⟨h1, h2⟩
  · rw [if_neg hc, if_neg hc]; exact ⟨h, rfl⟩
theorem sim_segAppend (h : Sim A R) (hI : Inv A n) (id k : Int) (p : List Int) : Sim (segAppendA A id k p).1 (segAppendR R id k p).1 ∧ (segAppendR R id k p).2 = (segAppendA A id k p).2 := by
  obtain ⟨h1, h2⟩ := sim_append h hI (nameV id) (Fr.frameI k p)
  unfold segAppendA segAppendR
  by_cases hc : codeN id = 0
  · rw [if_pos hc, if_pos hc]
    by_cases he : encC k p.length = 0
    · rw [if_pos he, if_pos he]
      by_cases hc2 : (appendA A (nameV id) (Fr.frameI k p)).2 = 0
      · rw [if_pos hc2, if_pos (by rw [h2]; exact hc2)]
        exact sim_sync h1 (inv_append hI _ _) (nameV id)
      · rw [if_neg hc2, if_neg (by rw [h2]; exact hc2)]
        exact ⟨h1, h2⟩
    · rw [if_neg he, if_neg he]; exact ⟨h, rfl⟩
  · rw [if_neg hc, if_neg hc]; exact ⟨h, rfl⟩
end
end Go.Proofs.YtigbgajelkknbaaGreatDoor
