/- The reference of layer 2 (rubricref02): a file system of it, in memory; 'step' and 'SyncDir' by what they make of it. -/
import Derived.Test.YtpfbiijcmmkjlaaFsRd
namespace Go.Proofs.Ytpfbiijcmmkjlaa
open Go.RowKit

/-- A file system of the reference. -/
structure RSt where
  room : Int
  files : List RN
  dir : List RN
  sure : List RN
  changes : List (List RN)
  steps : Int
  left : Int
  plan : List Int
/-- Its own block is of these. -/
def OwnIn (P : Nat → Prop) (v : Value) : Prop := ∀ k, v.ownBlock = some k → P k
/-- Its own block is of these, if it has room for a cell. -/
def OwnPl (P : Nat → Prop) (v : Value) : Prop := ∀ k, Live v k → P k
/-- Slices of names, one behind another, in blocks of P. -/
def ChOk (P : Nat → Prop) (w : World) (cvs : List Value) (cs : List (List RN)) : Prop := cvs.length = cs.length ∧ ∀ (i : Nat) (c : List RN), cs[i]? = some c → ∃ u, cvs[i]? = some u ∧ RNames w u c ∧ OwnIn P u
/-- The value v is that file system, in blocks of P. -/
def RFs (P : Nat → Prop) (w : World) (v : Value) (R : RSt) : Prop :=
  ∃ fv dv sv cv pv cvs, v = fsV R.room fv dv sv cv R.steps R.left pv ∧ RNames w fv R.files ∧ RNames w dv R.dir ∧ RNames w sv R.sure ∧ RRow w cv cvs ∧ ChOk P w cvs R.changes ∧ RPlan w pv R.plan ∧
    OwnIn P fv ∧ OwnIn P dv ∧ OwnIn P sv ∧ OwnIn P cv ∧ OwnPl P pv
/-- It is of a size that is gone through. -/
structure ROk (R : RSt) : Prop where
  dir : R.dir.length < 5000
  sure : R.sure.length < 5000
  files : R.files.length < 5000
  changes : R.changes.length < 5000
  each : ∀ c ∈ R.changes, c.length ≤ 2
  steps : 0 ≤ R.steps ∧ R.steps < 4611686018427387904
  left : -1 ≤ R.left ∧ R.left ≤ 9223372036854775807
  plan : R.plan.length < 1000
theorem RPlan.to {w w' : World} {v : Value} {p : List Int} (h : RPlan w v p) (hs : ∀ k, Live v k → w'.heap[k]? = w.heap[k]?) : RPlan w' v p := by
  rcases h with h | h | ⟨b, o, cap, rfl, h2, h3, h4⟩
  · exact .inl h
  · exact .inr (.inl h)
  by_cases hc : cap = 0
  · subst hc
    obtain rfl : p = [] := List.length_eq_zero_iff.1 (by omega)
    exact .inr (.inl ⟨_, rfl, rfl⟩)
  · have hb := hs b ⟨rfl, fun a e => by injection e with _ _ e; exact hc e⟩
    refine .inr (.inr ⟨b, o, cap, rfl, h2, ?_, fun j u hu => by rw [World.cell?_of_block (w := w) hb]; exact h4 j u hu⟩)
    have : w.heap[b]?.isSome := by simp [h3]
    rw [← hb] at this
    simpa using this
theorem RRow.block {w : World} {v : Value} {l : List Value} (h : RRow w v l) : ∀ j, v.ownBlock = some j → j < w.heap.size := by
  rcases h with ⟨rfl, _⟩ | ⟨b, o, cap, rfl, h3, _⟩
  · intro j hj; cases hj
  · intro j hj; cases hj; exact h3
theorem RPlan.block {w : World} {v : Value} {l : List Int} (h : RPlan w v l) : ∀ j, Live v j → j < w.heap.size := by
  rcases h with ⟨rfl, _⟩ | ⟨a, rfl, _⟩ | ⟨b, o, cap, rfl, _, h3, _⟩
  · intro j hj; cases hj.1
  · intro j hj; exact absurd rfl (hj.2 _)
  · intro j hj; cases hj.1; exact h3
section
variable {P Q : Nat → Prop} {w w' : World} {v : Value} {R : RSt} {cvs : List Value} {cs : List (List RN)}
theorem OwnIn.mono (h : OwnIn P v) (hq : ∀ k, P k → Q k) : OwnIn Q v := fun k hk => hq k (h k hk)
theorem OwnPl.mono (h : OwnPl P v) (hq : ∀ k, P k → Q k) : OwnPl Q v := fun k hk => hq k (h k hk)
theorem ChOk.one (h : ChOk P w cvs cs) : ∀ u ∈ cvs, u.oneCell' = true := by
  intro u hu
  obtain ⟨i, hi, rfl⟩ := List.getElem_of_mem hu
  obtain ⟨u', h1, h2, _⟩ := h.2 i _ (List.getElem?_eq_getElem (by rw [← h.1]; exact hi))
  rw [List.getElem?_eq_getElem hi] at h1
  obtain rfl := Option.some.inj h1
  obtain ⟨a, c, e⟩ := h2.slice
  rw [e]; rfl
theorem RFs.to (h : RFs P w v R) (hs : ∀ k, P k → w'.heap[k]? = w.heap[k]?) : RFs P w' v R := by
  obtain ⟨fv, dv, sv, cv, pv, cvs, h0, h1, h2, h3, h4, h5, h6, o1, o2, o3, o4, o5⟩ := h
  exact ⟨fv, dv, sv, cv, pv, cvs, h0, h1.to fun k hk => hs k (o1 k hk), h2.to fun k hk => hs k (o2 k hk), h3.to fun k hk => hs k (o3 k hk), h4.to fun k hk => hs k (o4 k hk),
    ⟨h5.1, fun i c hc => by obtain ⟨u, e1, e2, e3⟩ := h5.2 i c hc; exact ⟨u, e1, e2.to fun k hk => hs k (e3 k hk), e3⟩⟩, h6.to fun k hk => hs k (o5 k hk), o1, o2, o3, o4, o5⟩
theorem RFs.mono (h : RFs P w v R) (hq : ∀ k, P k → Q k) : RFs Q w v R := by
  obtain ⟨fv, dv, sv, cv, pv, cvs, h0, h1, h2, h3, h4, h5, h6, o1, o2, o3, o4, o5⟩ := h
  exact ⟨fv, dv, sv, cv, pv, cvs, h0, h1, h2, h3, h4, ⟨h5.1, fun i c hc => by obtain ⟨u, e1, e2, e3⟩ := h5.2 i c hc; exact ⟨u, e1, e2, e3.mono hq⟩⟩, h6, o1.mono hq, o2.mono hq, o3.mono hq, o4.mono hq, o5.mono hq⟩
theorem RFs.lt (h : RFs P w v R) : RFs (fun k => P k ∧ k < w.heap.size) w v R := by
  obtain ⟨fv, dv, sv, cv, pv, cvs, h0, h1, h2, h3, h4, h5, h6, o1, o2, o3, o4, o5⟩ := h
  exact ⟨fv, dv, sv, cv, pv, cvs, h0, h1, h2, h3, h4, ⟨h5.1, fun i c hc => by obtain ⟨u, e1, e2, e3⟩ := h5.2 i c hc; exact ⟨u, e1, e2, fun k hk => ⟨e3 k hk, e2.block k hk⟩⟩⟩, h6,
    fun k hk => ⟨o1 k hk, h1.block k hk⟩, fun k hk => ⟨o2 k hk, h2.block k hk⟩, fun k hk => ⟨o3 k hk, h3.block k hk⟩, fun k hk => ⟨o4 k hk, h4.block k hk⟩, fun k hk => ⟨o5 k hk, h6.block k hk⟩⟩
theorem RFs.below (h : RFs P w v R) (hb : Below w.heap.size w w') : RFs P w' v R :=
  (h.lt.to fun k hk => hb.block k hk.2).mono fun _ hk => hk.1
/-- Its parts are slices. -/
theorem RFs.parts (h : RFs P w v R) : ∃ (fa : Option Addr) (fc : Nat) (da : Option Addr) (dc : Nat) (sa : Option Addr) (sc : Nat) (ca : Option Addr) (cc : Nat) (pa : Option Addr) (pc : Nat) (cvs : List Value),
    v = .agg #[.int .i64 R.room, .slice fa R.files.length fc, .slice da R.dir.length dc, .slice sa R.sure.length sc, .slice ca R.changes.length cc, .int .i64 R.steps, .int .i64 R.left, .slice pa R.plan.length pc] ∧
    RNames w (.slice fa R.files.length fc) R.files ∧ RNames w (.slice da R.dir.length dc) R.dir ∧ RNames w (.slice sa R.sure.length sc) R.sure ∧ RRow w (.slice ca R.changes.length cc) cvs ∧ ChOk P w cvs R.changes ∧ RPlan w (.slice pa R.plan.length pc) R.plan ∧
    OwnIn P (.slice fa R.files.length fc) ∧ OwnIn P (.slice da R.dir.length dc) ∧ OwnIn P (.slice sa R.sure.length sc) ∧ OwnIn P (.slice ca R.changes.length cc) ∧ OwnPl P (.slice pa R.plan.length pc) := by
  obtain ⟨fv, dv, sv, cv, pv, cvs, h0, h1, h2, h3, h4, h5, h6, os⟩ := h
  obtain ⟨fa, fc, rfl⟩ := h1.slice
  obtain ⟨da, dc, rfl⟩ := h2.slice
  obtain ⟨sa, sc, rfl⟩ := h3.slice
  obtain ⟨ca, cc, rfl⟩ := h4.slice
  obtain ⟨pa, pc, rfl⟩ := h6.slice
  rw [h5.1] at h0 h4 os
  exact ⟨fa, fc, da, dc, sa, sc, ca, cc, pa, pc, cvs, h0, h1, h2, h3, h4, h5, h6, os⟩
theorem RFs.mk {fv dv sv cv pv : Value} (h1 : RNames w fv R.files) (h2 : RNames w dv R.dir) (h3 : RNames w sv R.sure) (h4 : RRow w cv cvs) (h5 : ChOk P w cvs R.changes) (h6 : RPlan w pv R.plan) (o1 : OwnIn P fv) (o2 : OwnIn P dv) (o3 : OwnIn P sv) (o4 : OwnIn P cv) (o5 : OwnPl P pv) :
    RFs P w (.agg #[.int .i64 R.room, fv, dv, sv, cv, .int .i64 R.steps, .int .i64 R.left, pv]) R := ⟨fv, dv, sv, cv, pv, cvs, rfl, h1, h2, h3, h4, h5, h6, o1, o2, o3, o4, o5⟩
end
/-- What 'step' makes of it; how; the error. -/
def stepR (R : RSt) : RSt × Int × Int :=
  if R.left = 0 then (R, 0, 22) else ({ R with steps := R.steps + 1, left := leftR R.left, plan := R.plan.tail }, howR R.plan, codeR (howR R.plan))
theorem refStepR {P : Nat → Prop} (v : Value) (R : RSt) (w : World) (h : RFs P w v R) (hk : ROk R) :
    Calls Try.prog 49 #[v] w fun e w' => ∃ v', e = .returned (.tuple #[v', .int .i64 (stepR R).2.1, .int .i64 (stepR R).2.2]) ∧ RFs P w v' (stepR R).1 ∧ Below w.heap.size w w' := by
  obtain ⟨fa, fc, da, dc, sa, sc, ca, cc, pa, pc, cvs, rfl, h1, h2, h3, h4, h5, h6, o1, o2, o3, o4, o5⟩ := h.parts
  by_cases hl : R.left = 0
  · have hs : stepR R = (R, 0, 22) := if_pos hl
    rw [hs, hl]
    refine (refStep_dead R.room R.steps fa _ fc da _ dc sa _ sc ca _ cc pa _ pc w).mono ?_
    rintro e w' ⟨he, hb⟩
    refine ⟨_, he, ?_, hb⟩
    rw [hl] at h
    exact h
  · have hs : stepR R = ({ R with steps := R.steps + 1, left := leftR R.left, plan := R.plan.tail }, howR R.plan, codeR (howR R.plan)) := if_neg hl
    rw [hs]
    refine (refStep_any R.room R.steps R.left fa _ fc da _ dc sa _ sc ca _ cc (.slice pa R.plan.length pc) R.plan w h6 (by have := hk.plan; omega) hk.steps hl hk.left).mono ?_
    rintro e w' ⟨pv', he, hp, ho, hb⟩
    exact ⟨_, he, RFs.mk (R := { R with steps := R.steps + 1, left := leftR R.left, plan := R.plan.tail }) h1 h2 h3 h4 h5 hp o1 o2 o3 o4 (fun k hk => o5 k (ho k hk)), hb⟩
theorem ROk.step {R : RSt} (h : ROk R) (hs : R.steps < 4611686018427387903) : ROk (stepR R).1 := by
  unfold stepR
  split
  · exact h
  · refine ⟨h.dir, h.sure, h.files, h.changes, h.each, ⟨by show 0 ≤ R.steps + 1; have := h.steps; omega, by show R.steps + 1 < _; omega⟩, ?_, ?_⟩
    · show -1 ≤ leftR R.left ∧ leftR R.left ≤ _
      have := h.left
      unfold leftR; split <;> omega
    · show R.plan.tail.length < _
      have := h.plan; simp; omega
/-- The cells of eight, and that none is frozen. -/
theorem Blk.fs {w : World} {g : Nat} {t : TypeId} {a0 a1 a2 a3 a4 a5 a6 a7 : Value} (h : Blk w g t [a0, a1, a2, a3, a4, a5, a6, a7]) :
    w.cell? ⟨g, 0, none⟩ = some a0 ∧ w.cell? ⟨g, 1, none⟩ = some a1 ∧ w.cell? ⟨g, 2, none⟩ = some a2 ∧ w.cell? ⟨g, 3, none⟩ = some a3 ∧ w.cell? ⟨g, 4, none⟩ = some a4 ∧ w.cell? ⟨g, 5, none⟩ = some a5 ∧ w.cell? ⟨g, 6, none⟩ = some a6 ∧ w.cell? ⟨g, 7, none⟩ = some a7 ∧
    w.frozen? ⟨g, 0, none⟩ = false ∧ w.frozen? ⟨g, 1, none⟩ = false ∧ w.frozen? ⟨g, 2, none⟩ = false ∧ w.frozen? ⟨g, 3, none⟩ = false ∧ w.frozen? ⟨g, 4, none⟩ = false ∧ w.frozen? ⟨g, 5, none⟩ = false ∧ w.frozen? ⟨g, 6, none⟩ = false ∧ w.frozen? ⟨g, 7, none⟩ = false :=
  ⟨h.cell rfl, h.cell rfl, h.cell rfl, h.cell rfl, h.cell rfl, h.cell rfl, h.cell rfl, h.cell rfl, h.frozen _, h.frozen _, h.frozen _, h.frozen _, h.frozen _, h.frozen _, h.frozen _, h.frozen _⟩
/-- An empty one's cells. -/
def zeroC : List Value := [.int .i64 0, .slice none 0 0, .slice none 0 0, .slice none 0 0, .slice none 0 0, .int .i64 0, .int .i64 0, .slice none 0 0]
/-- What 'Arm' makes of it, and the error. -/
def armR (R : RSt) (n : Int) : RSt × Int := if n < 0 then (R, 1) else if R.left = 0 then (R, 22) else ({ R with left := n }, 0)
set_option maxRecDepth 100000 in
set_option maxHeartbeats 2000000 in
theorem refArm_any {P : Nat → Prop} (v : Value) (R : RSt) (n : Int) (w : World) (h : RFs P w v R) :
    Calls Try.prog 28 #[v, .int .i64 n] w fun e w' => ∃ v', e = .returned (.tuple #[v', .int .i64 (armR R n).2]) ∧ RFs P w v' (armR R n).1 ∧ Below w.heap.size w w' := by
  obtain ⟨fa, fc, da, dc, sa, sc, ca, cc, pa, pc, cvs, rfl, h1, h2, h3, h4, h5, h6, o1, o2, o3, o4, o5⟩ := h.parts
  obtain ⟨room, files, dir, sure, changes, steps, left, plan⟩ := R
  simp only at h1 h2 h3 h4 h5 h6 o1 o2 o3 o4 o5 ⊢
  have HR := Lib.hid h
  have HN := Lib.hid (RFs.mk (R := ⟨room, files, dir, sure, changes, steps, n, plan⟩) h1 h2 h3 h4 h5 h6 o1 o2 o3 o4 o5)
  have HA : Hid (n < 0 → armR ⟨room, files, dir, sure, changes, steps, left, plan⟩ n = (⟨room, files, dir, sure, changes, steps, left, plan⟩, 1)) := fun h => if_pos h
  have HA2 : Hid (¬ n < 0 → left = 0 → armR ⟨room, files, dir, sure, changes, steps, left, plan⟩ n = (⟨room, files, dir, sure, changes, steps, left, plan⟩, 22)) := fun h h' => by show armR _ _ = _; unfold armR; rw [if_neg h, if_pos h']
  have HA3 : Hid (¬ n < 0 → ¬ left = 0 → armR ⟨room, files, dir, sure, changes, steps, left, plan⟩ n = (⟨room, files, dir, sure, changes, steps, n, plan⟩, 0)) := fun h h' => by show armR _ _ = _; unfold armR; rw [if_neg h, if_neg h']
  clear h1 h2 h3 h4 h5 h6 h o1 o2 o3 o4 o5
  go_enter Try.func28, Try.ntmps28
  have hbb : ∀ A B, Below w.heap.size w ((w.alloc A).alloc B) := fun A B => ((Below.refl _ _).alloc (Nat.le_refl _) A).alloc (by simp) B
  have HBB := Lib.hid hbb
  clear hbb
  by_cases hn : n < 0
  · go_wp2_with fail
    refine bodyPost_ret (v := .tuple #[.agg #[.int .i64 room, .slice fa files.length fc, .slice da dir.length dc, .slice sa sure.length sc, .slice ca changes.length cc, .int .i64 steps, .int .i64 left, .slice pa plan.length pc], .int .i64 1]) (by simp [results, Try.results28, go_sem]) rfl ⟨_, by rw [HA.out hn], ?_, HBB.out _ _⟩
    rw [HA.out hn]; exact HR.out
  by_cases hl : left = 0
  · subst hl
    go_wp2_with fail
    refine bodyPost_ret (v := .tuple #[.agg #[.int .i64 room, .slice fa files.length fc, .slice da dir.length dc, .slice sa sure.length sc, .slice ca changes.length cc, .int .i64 steps, .int .i64 0, .slice pa plan.length pc], .int .i64 22]) (by simp [results, Try.results28, go_sem]) rfl ⟨_, by rw [HA2.out hn trivial], ?_, HBB.out _ _⟩
    rw [HA2.out hn trivial]; exact HR.out
  · go_wp2_with fail
    refine bodyPost_ret (v := .tuple #[.agg #[.int .i64 room, .slice fa files.length fc, .slice da dir.length dc, .slice sa sure.length sc, .slice ca changes.length cc, .int .i64 steps, .int .i64 n, .slice pa plan.length pc], .int .i64 0]) (by simp [results, Try.results28, go_sem]) rfl ⟨_, by rw [HA3.out hn hl], ?_, HBB.out _ _⟩
    rw [HA3.out hn hl]
    exact HN.out
end Go.Proofs.Ytpfbiijcmmkjlaa
