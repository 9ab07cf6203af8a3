/- Package simfs: 'Plan'; every call, with the blocks that it may change. Package simfs and the reference of layer 2: when they tell the same. Plain; nothing is walked. Package simfs and the reference of layer 2: each call keeps them telling the same, and answers the same. Plain; nothing is walked. Package simfs and the reference of layer 2: a crash leaves what tells the same; what holds of every file system, call by call. Plain; nothing is walked. Package simfs: every call, with the blocks that it may change. -/
import Derived.Test.YtigbgajelkknbaaGreatDoorFsOb
import Derived.Test.YtigbgajelkknbaaGreatDoorFsRk
import Derived.Test.YtigbgajelkknbaaGreatDoorFsRo
namespace Go.Proofs.YtigbgajelkknbaaGreatDoor
open Go.RowKit Go.Maps Go.WideMaps
set_option maxRecDepth 100000

theorem ints_plan {w : World} {base : Nat} {v : Value} {l : List Int} (h : w.ownsRow base 3 1 v l.length (l.map (Value.int .i64))) : PlanAt w v l ∧ (∀ k, v.ownBlock = some k → base ≤ k) ∧ ∃ a c, v = .slice a l.length c := by
  rcases h.2 with ⟨rfl, h0⟩ | ⟨x, cap, cur, rfl, hb, hh, h1, h2, h3, h4⟩
  · exact ⟨.inl ⟨rfl, List.length_eq_zero_iff.1 h0⟩, fun k hk => (by cases hk), none, 0, by rw [h0]⟩
  · refine ⟨.inr ⟨x, 0, cap, cur, rfl, h1, hh, fun j u hu => ?_⟩, fun k hk => (by cases hk; exact hb), _, _, rfl⟩
    have hj : j < l.length := (List.getElem?_eq_some_iff.1 hu).1
    have h5 : (l.map (Value.int .i64))[j]? = some (.int .i64 u) := by rw [List.getElem?_map, hu]; rfl
    rw [← h4, List.getElem?_take_of_lt (by omega)] at h5
    rw [Nat.zero_add, ← Array.getElem?_toList]; exact h5
theorem planClone_any (v : Value) (l : List Int) (w : World) (h : Ints w v l) (hl : l.length ≤ 1000) :
    Calls Tryz.prog 90 #[v] w fun e w' => ∃ v', e = .returned v' ∧ PlanAt w' v' l ∧ (∀ k, v'.ownBlock = some k → w.heap.size ≤ k) ∧ (∃ a c, v' = .slice a l.length c) ∧ Below w.heap.size w w' := by
  rcases h with ⟨rfl, rfl⟩ | ⟨pb, po, cap, rfl, hb, hr⟩
  · exact (Tryz.slices_Clone_int_nil 0 0 w).mono fun e w' ⟨he, hw⟩ => ⟨_, he, .inl ⟨rfl, rfl⟩, fun k hk => (by cases hk), ⟨none, 0, rfl⟩, by rw [hw]; exact Below.refl _ _⟩
  · refine (Tryz.slices_Clone_int pb po l.length cap l w (Nat.le_refl _) (by omega) fun j hj => hr j _ ?_).mono fun e w' ⟨v', he, ho, _, hB⟩ => ?_
    · rw [List.getElem?_map, List.getD_eq_getElem?_getD, List.getElem?_eq_getElem hj]; rfl
    · rw [List.take_of_length_le (Nat.le_refl _)] at ho
      obtain ⟨h1, h2, h3⟩ := ints_plan ho
      exact ⟨v', he, h1, h2, h3, hB⟩
set_option maxRecDepth 100000 in
set_option maxHeartbeats 1000000 in
theorem plan_any (g : Nat) (S : Nat → Prop) (A : FsA) (v : Value) (l : List Int) (w : World) (h : Fs w g S A) (hv : Ints w v l) (hl : l.length ≤ 1000) :
    Calls Tryz.prog 40 #[.pointer (some ⟨g, 3, none⟩), v] w fun e w' => e = .returned (.tuple #[]) ∧ Fs w' g (grow S w w') { A with plan := l } ∧ Keep S w w' := by
  obtain ⟨va, vc, rfl⟩ := hv.slice
  have HC := Lib.hid (planClone_any _ l w hv hl)
  have HF := Lib.hid h
  clear h hv
  go_enter Tryz.func40, Tryz.ntmps40
  go_wp2_with fail
  refine HC.out.mono ?_; rintro e w1 ⟨v', rfl, hp, hpo, ⟨pa, pc, rfl⟩, hb⟩
  obtain ⟨pv, bn, bs, sv, vs, dv, hM⟩ := HF.out
  have hM1 := hM.to (w' := w1) (T := grow S w w1) (fun k hk => .inl hk) (fun k _ hlt => hb.block k hlt)
  have f3 := hM1.row.frozen 3
  have c3 := hM1.row.cell (i := 3) rfl
  have hset := hM1.row.set 3 (.slice pa l.length pc)
  have hbut : But w1.heap.size g w1 (w1.setCell ⟨g, 3, none⟩ (.slice pa l.length pc)) := (But.refl _ g _).setCell (p := ⟨g, 3, none⟩) (.inr rfl) _
  have hpb : ∀ k, (Value.slice pa l.length pc).ownBlock = some k → w.heap.size ≤ k ∧ k < w1.heap.size := fun k hk => ⟨hpo k hk, by
    rcases hp with ⟨h0, _⟩ | ⟨pb, po, cap, cur, h0, _, h2, _⟩
    · rw [h0] at hk; cases hk
    · rw [h0] at hk; cases hk; exact (Array.getElem?_eq_some_iff.1 h2).1⟩
  have hfin := hM1.head hbut A.count A.armed A.left A.created l (.slice pa l.length pc) hset (hp.to fun k cur e _ => hbut.block k (heap_lt e) (kind_ne e hM1.row (fun e => by injection e with _ e2 _; exact absurd e2 (by decide)))) (fun k hk => .inr (hpb k hk))
  have HFIN : Hid (Fs (w1.setCell ⟨g, 3, none⟩ (.slice pa l.length pc)) g (grow S w (w1.setCell ⟨g, 3, none⟩ (.slice pa l.length pc))) { A with plan := l }) :=
    Fs.to ⟨_, _, _, _, _, _, hfin⟩ (fun k hk => hk.imp id fun h => ⟨h.1, by rw [World.size_setCell]; exact h.2⟩) fun _ _ _ => rfl
  have HK : Hid (Keep S w (w1.setCell ⟨g, 3, none⟩ (.slice pa l.length pc))) := (Keep.of_below hb).trans' (Keep.of_but hbut hM.gS)
  clear hp hpo hb hM hM1 hset hbut hpb hfin
  go_wp2_with fail
  go_end0
  exact ⟨rfl, HFIN.out, HK.out⟩
end Go.Proofs.YtigbgajelkknbaaGreatDoor
namespace Go.Proofs.YtigbgajelkknbaaGreatDoor
open Go.RowKit Go.Maps Go.WideMaps
set_option maxRecDepth 100000

/-- A file as the reference has it. -/
def filR (f : Fil) : RN := (strOfNums f.data, (f.sure : Int))
/-- They tell the same. -/
structure Sim (A : FsA) (R : RSt) : Prop where
  room : R.room = A.room
  steps : R.steps = A.count
  left : R.left = if A.armed = true then A.left else -1
  plan : R.plan = A.plan
  planL : A.plan.length < 1000
  created : A.created = (R.files.length : Int)
  inj : ∀ b b' f f', A.file b = some f → A.file b' = some f' → f.num = f'.num → b = b'
  file : ∀ b f, A.file b = some f → 0 ≤ f.num ∧ R.files[f.num.toNat]? = some (filR f)
  row : ∀ x ∈ R.files, x.1.size ≤ 65536 ∧ 0 ≤ x.2 ∧ x.2 ≤ x.1.size
  chg : A.since.length = R.changes.length
  each : ∀ c ∈ R.changes, c.length ≤ 2
  dirs : ∀ i, Rep A.file R.files.length (preD A i) (preR R i)
  good : ∀ i, ∀ x ∈ preR R i, nameB x.1 = true
  dir : R.dir = preR R R.changes.length
theorem Sim.fl {A : FsA} {R : RSt} (h : Sim A R) : ∀ b f, A.file b = some f → 0 ≤ f.num := fun b f hb => (h.file b f hb).1
theorem Sim.numlt {A : FsA} {R : RSt} (h : Sim A R) {b : Nat} {f : Fil} (hb : A.file b = some f) : 0 ≤ f.num ∧ f.num < R.files.length := by
  obtain ⟨h1, h2⟩ := h.file b f hb
  have := (List.getElem?_eq_some_iff.1 h2).1
  omega
theorem Sim.now {A : FsA} {R : RSt} {n : Nat} (h : Sim A R) (hI : Inv A n) : Rep A.file R.files.length A.now R.dir := by
  rw [hI.now, h.dir, ← h.chg]; exact h.dirs _
theorem Sim.len {A : FsA} {R : RSt} {n : Nat} (h : Sim A R) (hI : Inv A n) (i : Nat) : (preR R i).length ≤ n := by
  rw [(h.dirs i).length h.fl (hI.tidy i) (hI.ok i)]; exact hI.size i
theorem Sim.dirlen {A : FsA} {R : RSt} {n : Nat} (h : Sim A R) (hI : Inv A n) : R.dir.length = Maps.size A.now := (h.now hI).length h.fl hI.tidyNow hI.okNow
theorem Sim.ok {A : FsA} {R : RSt} {n : Nat} (h : Sim A R) (hI : Inv A n) (hn : n < 1000) : ROk R := by
  have hs := h.len hI 0
  have hs' : R.sure.length ≤ n := hs
  refine ⟨by rw [h.dir]; have := h.len hI R.changes.length; omega, by omega, ?_, ?_, h.each, ?_, ?_, by rw [h.plan]; exact h.planL⟩
  · have := h.created; have := hI.cr; omega
  · have := h.chg; have := hI.since; omega
  · rw [h.steps]; have := hI.c; omega
  · rw [h.left]; have := hI.l; split <;> omega
theorem Sim.well {A : FsA} {R : RSt} {n : Nat} (h : Sim A R) (hI : Inv A n) : RWell R := ⟨(h.now hI).num, fun f hf => by have := (h.row f hf).1; omega⟩
theorem Sim.names {A : FsA} {R : RSt} {n : Nat} (h : Sim A R) (hI : Inv A n) : namesD A.now = R.dir.map nmL := (h.now hI).names h.fl hI.tidyNow hI.okNow
/-- A name's file. -/
theorem Sim.find {A : FsA} {R : RSt} {n : Nat} (h : Sim A R) (hI : Inv A n) (s : ByteArray) :
    (dget A.now s = none ∧ findR R.dir s = -1) ∨ ∃ b f, dget A.now s = some b ∧ A.file b = some f ∧ findR R.dir s = f.num ∧ 0 ≤ f.num ∧ f.num < R.files.length ∧ R.files[f.num.toNat]? = some (filR f) := by
  rcases (h.now hI).look s with h1 | ⟨b, f, h1, h2, h3⟩
  · exact .inl h1
  · exact .inr ⟨b, f, h1, h2, h3, (h.numlt h2).1, (h.numlt h2).2, (h.file b f h2).2⟩
theorem Sim.open_ {A : FsA} {R : RSt} {n : Nat} (h : Sim A R) (hI : Inv A n) (s : ByteArray) :
    (openR R s).2 = (findA A s).2 ∧ ((findA A s).2 = 0 → ∃ b f, findA A s = (some b, 0) ∧ dget A.now s = some b ∧ A.file b = some f ∧ (openR R s).1.toNat = f.num.toNat ∧ 0 ≤ f.num ∧ fileR R f.num.toNat = filR f ∧ f.num.toNat < R.files.length) := by
  unfold openR findA
  cases hb : nameB s with
  | false => exact ⟨by simp, fun e => by simp at e⟩
  | true =>
    rw [if_neg (by simp), if_pos rfl]
    rcases h.find hI s with ⟨h1, h2⟩ | ⟨b, f, h1, h2, h3, h4, h5, h6⟩
    · rw [h1, h2, if_pos (by omega)]
      exact ⟨rfl, fun e => by cases e⟩
    · rw [h1, h3, if_neg (by omega)]
      exact ⟨rfl, fun _ => ⟨b, f, rfl, rfl, h2, rfl, h4, by unfold fileR; rw [List.getD_eq_getElem?_getD, h6]; rfl, by omega⟩⟩
/-- A step. -/
theorem Sim.step {A : FsA} {R : RSt} (h : Sim A R) (hl0 : 0 ≤ A.left) : Sim (stepA A).1 (stepR R).1 ∧ (stepR R).2.2 = (stepA A).2.2 ∧ (2 < (stepR R).2.1 → (stepA A).2.1 = (stepR R).2.1) ∧ (¬ 2 < (stepR R).2.1 → (stepA A).2.1 ≤ 2) := by
  have hd : deadB A.armed A.left = true ↔ R.left = 0 := by
    rw [h.left]; unfold deadB
    cases A.armed <;> simp
  by_cases h0 : R.left = 0
  · have e1 : stepA A = (A, 0, 22) := by unfold stepA; rw [if_pos (hd.2 h0)]
    have e2 : stepR R = (R, 0, 22) := by unfold stepR; rw [if_pos h0]
    rw [e1, e2]
    exact ⟨h, rfl, fun h => by simp at h, fun _ => by simp⟩
  · have e1 : stepA A = ({ A with count := A.count + 1, left := if A.armed = true then A.left - 1 else A.left, plan := A.plan.tail }, howOf A.plan, faultOf (howOf A.plan)) := by
      unfold stepA; rw [if_neg (fun e => h0 (hd.1 e))]
    have e2 : stepR R = ({ R with steps := R.steps + 1, left := leftR R.left, plan := R.plan.tail }, howR R.plan, codeR (howR R.plan)) := by unfold stepR; rw [if_neg h0]
    rw [e1, e2]
    refine ⟨⟨h.room, by show R.steps + 1 = A.count + 1; rw [h.steps], ?_, by show R.plan.tail = A.plan.tail; rw [h.plan], by show A.plan.tail.length < 1000; have := h.planL; simp; omega, h.created, h.inj, h.file, h.row, h.chg, h.each, h.dirs, h.good, h.dir⟩, ?_, ?_, ?_⟩
    · show leftR R.left = if A.armed = true then (if A.armed = true then A.left - 1 else A.left) else -1
      have hl := h.left
      cases ha : A.armed with
      | false => rw [ha] at hl; simp at hl; rw [hl]; simp [leftR]
      | true =>
        rw [ha] at hl; simp at hl
        rw [hl] at h0 ⊢
        unfold leftR
        rw [if_pos (show A.left > 0 by omega)]
        simp
    · rw [h.plan]
      show codeR (A.plan.headD 0) = faultOf (howOf A.plan)
      unfold howOf codeR faultOf
      split <;> split <;> (try split) <;> (try split) <;> (try rfl) <;> omega
    · rw [h.plan]
      show 2 < A.plan.headD 0 → (if A.plan.headD 0 < 0 then 1 else A.plan.headD 0) = A.plan.headD 0
      intro h2; rw [if_neg (by omega)]
    · rw [h.plan]
      show ¬ 2 < A.plan.headD 0 → (if A.plan.headD 0 < 0 then 1 else A.plan.headD 0) ≤ 2
      intro h2; split <;> omega
theorem preR_turn (R : RSt) (l : List RN) (i : Nat) : preR (turnS R l) i = if i ≤ R.changes.length then preR R i else turnR (preR R R.changes.length) l := by
  unfold preR turnS
  simp only
  by_cases h : i ≤ R.changes.length
  · rw [if_pos h, List.take_append_of_le_length h]
  · rw [if_neg h, List.take_of_length_le (by simp; omega), List.foldl_append, List.take_of_length_le (Nat.le_refl _)]; rfl
theorem turnR_mem : ∀ (l : List RN) (d : List RN) (x : RN), x ∈ turnR d l → x ∈ d ∨ x ∈ l
  | [], d, x, h => .inl h
  | a :: l, d, x, h => by
    rcases turnR_mem l (withR d a) x h with h | h
    · rcases withGo_mem a d _ x h with h | ⟨rfl, _⟩
      · exact .inl h
      · exact .inr List.mem_cons_self
    · exact .inr (List.mem_cons_of_mem _ h)
/-- A change of the directory. -/
theorem Sim.change {A : FsA} {R : RSt} (h : Sim A R) (c : Chg) (l : List RN) (hl : l.length ≤ 2) (hg : ∀ x ∈ l, nameB x.1 = true) (hr : Rep A.file R.files.length (c.ap (preD A A.since.length)) (turnR R.dir l)) : Sim (changeA A c) (turnS R l) := by
  refine ⟨h.room, h.steps, h.left, h.plan, h.planL, h.created, h.inj, h.file, h.row, ?_, ?_, ?_, ?_, ?_⟩
  · show (A.since ++ [c]).length = (R.changes ++ [l]).length
    simp [h.chg]
  · intro x hx
    have hx' : x ∈ R.changes ++ [l] := hx
    rcases List.mem_append.1 hx' with hx' | hx'
    · exact h.each x hx'
    · rw [List.mem_singleton] at hx'; subst hx'; exact hl
  · intro i
    show Rep A.file R.files.length _ _
    rw [preD_change, preR_turn, h.chg]
    split
    · exact h.dirs i
    · rw [← h.dir, ← h.chg]; exact hr
  · intro i x hx
    rw [preR_turn] at hx
    split at hx
    · exact h.good i x hx
    · rcases turnR_mem l _ x hx with hx | hx
      · exact h.good _ x hx
      · exact hg x hx
  · show turnR R.dir l = preR (turnS R l) (R.changes ++ [l]).length
    rw [preR_turn, if_neg (by simp), h.dir]
/-- A new file. -/
theorem Sim.newFile {A : FsA} {R : RSt} (h : Sim A R) {b : Nat} (hb : A.file b = none) : Sim { A with file := fun k => if k = b then some ⟨A.created, [], 0⟩ else A.file k, created := A.created + 1 } { R with files := R.files ++ [(⟨#[]⟩, 0)] } := by
  have hmono : ∀ b' f, A.file b' = some f → ∃ f', (if b' = b then some ⟨A.created, [], 0⟩ else A.file b') = some f' ∧ f'.num = f.num := fun b' f hf => by
    have hne : b' ≠ b := fun e => by rw [e, hb] at hf; cases hf
    exact ⟨f, by rw [if_neg hne]; exact hf, rfl⟩
  refine ⟨h.room, h.steps, h.left, h.plan, h.planL, ?_, ?_, ?_, ?_, h.chg, h.each, fun i => ?_, h.good, h.dir⟩
  · show A.created + 1 = ((R.files ++ [_]).length : Nat)
    rw [h.created, List.length_append]; simp
  · intro b1 b2 f1 f2 h1 h2 he
    have h1' : (if b1 = b then some ⟨A.created, [], 0⟩ else A.file b1) = some f1 := h1
    have h2' : (if b2 = b then some ⟨A.created, [], 0⟩ else A.file b2) = some f2 := h2
    have hc := h.created
    split at h1' <;> split at h2'
    · rename_i e1 e2; rw [e1, e2]
    · cases h1'; have := (h.numlt h2').2; simp only at he; omega
    · cases h2'; have := (h.numlt h1').2; simp only at he; omega
    · exact h.inj _ _ _ _ h1' h2' he
  · intro b1 f1 h1
    have h1' : (if b1 = b then some ⟨A.created, [], 0⟩ else A.file b1) = some f1 := h1
    have hc := h.created
    split at h1'
    · cases h1'
      refine ⟨by show 0 ≤ A.created; omega, ?_⟩
      show (R.files ++ [((⟨#[]⟩, 0) : RN)])[A.created.toNat]? = _
      rw [show A.created.toNat = R.files.length by omega, List.getElem?_append_right (Nat.le_refl _), Nat.sub_self]; rfl
    · obtain ⟨g1, g2⟩ := h.file b1 f1 h1'
      refine ⟨g1, ?_⟩
      show (R.files ++ [((⟨#[]⟩, 0) : RN)])[f1.num.toNat]? = _
      rw [List.getElem?_append_left (List.getElem?_eq_some_iff.1 g2).1]; exact g2
  · intro x hx
    have hx' : x ∈ R.files ++ [((⟨#[]⟩, 0) : RN)] := hx
    rcases List.mem_append.1 hx' with hx' | hx'
    · exact h.row x hx'
    · rw [List.mem_singleton] at hx'; subst hx'; exact ⟨Nat.zero_le _, Int.le_refl _, Int.le_refl _⟩
  · exact (h.dirs i).mono hmono (by show _ ≤ (R.files ++ [_]).length; simp)
/-- A file with other bytes, or more of them sure. -/
theorem Sim.setFile {A : FsA} {R : RSt} (h : Sim A R) {b : Nat} {f f' : Fil} (hb : A.file b = some f) (hn : f'.num = f.num) (hl : f'.data.length ≤ 65536) (hs : f'.sure ≤ f'.data.length) : Sim (setF A b f') (setR R f.num.toNat (filR f')) := by
  have hnum := h.numlt hb
  have hmono : ∀ b' g, A.file b' = some g → ∃ g', (if b' = b then some f' else A.file b') = some g' ∧ g'.num = g.num := fun b' g hg => by
    by_cases e : b' = b
    · subst e; rw [hb] at hg; cases hg; exact ⟨f', by rw [if_pos rfl], hn⟩
    · exact ⟨g, by rw [if_neg e]; exact hg, rfl⟩
  have key : ∀ b1 f1, (if b1 = b then some f' else A.file b1) = some f1 → ∃ f0, A.file b1 = some f0 ∧ f0.num = f1.num ∧ (b1 = b → f1 = f') ∧ (b1 ≠ b → f0 = f1) := fun b1 f1 h1 => by
    split at h1
    · rename_i e; cases h1; exact ⟨f, by rw [e]; exact hb, hn.symm, fun _ => rfl, fun e2 => absurd e e2⟩
    · rename_i e; exact ⟨f1, h1, rfl, fun e2 => absurd e2 e, fun _ => rfl⟩
  refine ⟨h.room, h.steps, h.left, h.plan, h.planL, ?_, ?_, ?_, ?_, h.chg, h.each, fun i => ?_, h.good, h.dir⟩
  · show A.created = ((R.files.set _ _).length : Nat)
    rw [List.length_set]; exact h.created
  · intro b1 b2 f1 f2 h1 h2 he
    obtain ⟨g1, k1, k2, _⟩ := key b1 f1 h1
    obtain ⟨g2, k3, k4, _⟩ := key b2 f2 h2
    exact h.inj _ _ _ _ k1 k3 (by rw [k2, k4, he])
  · intro b1 f1 h1
    obtain ⟨g1, k1, k2, k3, k4⟩ := key b1 f1 h1
    obtain ⟨q1, q2⟩ := h.file b1 g1 k1
    refine ⟨by rw [← k2]; exact q1, ?_⟩
    show (R.files.set f.num.toNat (filR f'))[f1.num.toNat]? = _
    by_cases e : b1 = b
    · rw [k3 e, hn, List.getElem?_set_self (by omega)]
    · have hne : f.num.toNat ≠ f1.num.toNat := fun e2 => e (h.inj b1 b g1 f k1 hb (by rw [k2]; have := k2 ▸ q1; omega))
      rw [List.getElem?_set_ne hne, ← k4 e]; exact q2
  · intro x hx
    rcases List.mem_or_eq_of_mem_set hx with hx | rfl
    · exact h.row x hx
    · unfold filR; simp only [strOfNums_size]; omega
  · show Rep _ (R.files.set _ _).length _ _
    rw [List.length_set]
    exact (h.dirs i).mono hmono (Nat.le_refl _)
theorem uniq_key : ∀ (es : List (Lit × DataW Unit)), es.Pairwise (fun p q => p.1 ≠ q.1) → ∀ p q, p ∈ es → q ∈ es → p.1 = q.1 → p = q
  | [], _, _, _, h, _, _ => by cases h
  | a :: es, hp, p, q, h1, h2, h => by
    obtain ⟨g1, g2⟩ := List.pairwise_cons.1 hp
    rcases List.mem_cons.1 h1 with e1 | e1 <;> rcases List.mem_cons.1 h2 with e2 | e2
    · rw [e1, e2]
    · rw [e1] at h; exact absurd h (g1 q e2)
    · rw [e2] at h; exact absurd h.symm (g1 p e1)
    · exact uniq_key es g2 p q e1 e2 h
/-- The bytes that are used. -/
theorem Sim.used {A : FsA} {R : RSt} {n : Nat} (h : Sim A R) (hI : Inv A n) : usedA A = usedR R := by
  have hnm := h.names hI
  have hT := hI.tidyNow
  have hO := hI.okNow
  have hfind := fun s => h.find hI s
  unfold usedA usedR
  obtain ⟨es, hes, hp⟩ := hO
  rw [hes] at hnm hT hfind ⊢
  obtain ⟨es', he', hpw⟩ := hT
  cases he'
  -- by name
  have hg : ∀ p ∈ es, wt A.file p.2 = szR R (findR R.dir ⟨(strOf p.1).toArray⟩) := fun p hpm => by
    obtain ⟨s, b, f, h1, h2, h3, h4⟩ := hp p hpm
    have hk : (⟨(strOf p.1).toArray⟩ : ByteArray) = s := by rw [h1]; exact bytes_back s
    rw [hk]
    have hdg : dget (.map es) s = some b := by
      unfold dget DataW.atKey
      have hf : es.find? (fun q => q.1.sameKey (keyL s)) = some p := by
        have hps : p.1.sameKey (keyL s) = true := by rw [h1]; simp [keyL, Lit.sameKey]
        cases hff : es.find? (fun q => q.1.sameKey (keyL s)) with
        | none => exact absurd hps (by simpa using List.find?_eq_none.1 hff p hpm)
        | some q =>
          have hqm := List.mem_of_find?_eq_some hff
          have hqs := List.find?_some hff
          have hqk : q.1 = p.1 := (WideAt.sameKey_eq hqs).trans h1.symm
          rw [uniq_key es hpw q p hqm hpm hqk]
      simp [hf, h3]
    rcases hfind s with ⟨g1, _⟩ | ⟨b', f', g1, g2, g3, g4, g5, g6⟩
    · rw [hdg] at g1; cases g1
    · rw [hdg] at g1; cases g1
      rw [g2] at h4; cases h4
      rw [h3, g3]
      unfold wt szR
      rw [List.getD_eq_getElem?_getD, g6]
      simp [g2, filR, strOfNums_size]
  have e1 : tot A.file es (fun _ => true) = ((strKeys (.map es : DataW Unit)).map fun k => szR R (findR R.dir ⟨k.toArray⟩)).sum := by
    unfold tot strKeys
    rw [List.filter_eq_self.2 (fun _ _ => rfl), List.map_map]
    congr 1
    exact List.map_congr_left fun p hpm => hg p hpm
  show tot A.file es (fun _ => true) = _
  rw [e1]
  have hperm : (strKeys (.map es : DataW Unit)).Perm (R.dir.map nmL) := by rw [← hnm]; exact (List.mergeSort_perm _ _).symm
  rw [(hperm.map _).sum_nat, List.map_map]
  congr 1
  refine List.map_congr_left fun x hx => ?_
  show szR R (findR R.dir ⟨x.1.data.toList.toArray⟩) = _
  rw [bytes_back, findR_mem R.dir (h.now hI).rise hx]
end Go.Proofs.YtigbgajelkknbaaGreatDoor
namespace Go.Proofs.YtigbgajelkknbaaGreatDoor
open Go.RowKit Go.Maps Go.WideMaps
set_option maxRecDepth 100000

section
variable {A : FsA} {R : RSt} {n : Nat}
theorem sim_create (h : Sim A R) (hI : Inv A n) (s : ByteArray) {b : Nat} (hb : A.file b = none) : Sim (createA A s b).1 (createR R s).1 ∧ (createR R s).2 = (createA A s b).2 := by
  obtain ⟨k1, k2, -, -⟩ := h.step hI.l.1
  have hdl := h.dirlen hI
  have hf := h.find hI s
  unfold createA createR
  by_cases hn : nameB s = true
  · rw [if_pos hn, if_pos hn]
    rcases hf with ⟨h1, h2⟩ | ⟨c, f, h1, h2, h3, h4, _, _⟩
    · rw [h1, h2, if_neg (show ¬ (none : Option Nat).isSome = true by simp), if_neg (show ¬ (0 : Int) ≤ -1 by decide), hdl]
      by_cases h64 : 64 ≤ Maps.size A.now
      · rw [if_pos h64, if_pos h64]; exact ⟨h, rfl⟩
      · rw [if_neg h64, if_neg h64, k2]
        by_cases h0 : (stepA A).2.2 = 0
        · rw [if_pos h0, if_pos h0]
          refine ⟨?_, rfl⟩
          have hfile : (stepA A).1.file b = none := by rw [(stepA_same A).2.2.2.1]; exact hb
          have hnew := k1.newFile hfile
          have hst := stepA_same A
          refine hnew.change (.create s b) [(s, ((stepR R).1.files.length : Nat))] (by simp) (fun x hx => by rw [List.mem_singleton] at hx; subst hx; exact hn) ?_
          have hcr := k1.created
          have hnow : Rep ({ (stepA A).1 with file := fun k => if k = b then some ⟨(stepA A).1.created, [], 0⟩ else (stepA A).1.file k, created := (stepA A).1.created + 1 } : FsA).file ((stepR R).1.files ++ [((⟨#[]⟩, 0) : RN)]).length (preD (stepA A).1 (stepA A).1.since.length) (stepR R).1.dir := by
            have h9 := hnew.dirs (stepA A).1.since.length
            have h10 := k1.dir
            rw [k1.chg] at h9 ⊢
            rw [h10]; exact h9
          have hp := hnow.put (by have := (Inv.step hI).tidy (stepA A).1.since.length; exact this.isMap) (s := s) (b := b) (f := ⟨(stepA A).1.created, [], 0⟩) (if_pos rfl) ⟨by show 0 ≤ (stepA A).1.created; omega, by show (stepA A).1.created < ((_ : Nat) : Int); rw [List.length_append, hcr]; simp; omega⟩
          show Rep _ _ _ (withR _ (s, ((stepR R).1.files.length : Int)))
          rw [← hcr]
          exact hp
        · rw [if_neg h0, if_neg h0]; exact ⟨k1, rfl⟩
    · rw [h1, h3, if_pos (show (some c).isSome = true by simp), if_pos h4]; exact ⟨h, rfl⟩
  · rw [if_neg hn, if_neg hn]; exact ⟨h, rfl⟩
theorem sim_sync (h : Sim A R) (hI : Inv A n) (s : ByteArray) : Sim (syncA A s).1 (syncR R s).1 ∧ (syncR R s).2 = (syncA A s).2 := by
  obtain ⟨k1, k2, -, -⟩ := h.step hI.l.1
  obtain ⟨o1, o2⟩ := h.open_ hI s
  unfold syncA syncR
  rw [o1]
  by_cases h0 : (findA A s).2 = 0
  · obtain ⟨b, f, e1, e2, e3, e4, e5, e6, e7⟩ := o2 h0
    rw [if_pos h0, if_pos h0, k2]
    unfold doneA
    by_cases hc : (stepA A).2.2 = 0
    · rw [if_pos hc, if_pos hc]
      refine ⟨?_, rfl⟩
      have hfb : (stepA A).1.file b = some f := by rw [(stepA_same A).2.2.2.1]; exact e3
      have hfr : fileR (stepR R).1 (openR R s).1.toNat = filR f := by rw [e4]; unfold fileR; rw [(stepR_same R).1]; exact e6
      have hsh := hI.short b f e3
      have hset := k1.setFile (f' := { f with sure := f.data.length }) hfb rfl hsh.1 (Nat.le_refl _)
      have e9 : ({ (stepA A).1 with file := fun k => if some k = (findA A s).1 then ((stepA A).1.file k).map (fun f => { f with sure := f.data.length }) else (stepA A).1.file k } : FsA) = setF (stepA A).1 b { f with sure := f.data.length } := by
        unfold setF
        simp only [e1]
        congr 1
        funext k
        by_cases hk : k = b
        · subst hk; simp [hfb]
        · rw [if_neg (fun e => hk (Option.some.inj e)), if_neg hk]
      show Sim ({ (stepA A).1 with file := fun k => if some k = (findA A s).1 then ((stepA A).1.file k).map (fun f => { f with sure := f.data.length }) else (stepA A).1.file k } : FsA) _
      rw [e9, hfr, e4]
      have e10 : filR { f with sure := f.data.length } = ((filR f).1, ((filR f).1.size : Int)) := by unfold filR; simp [strOfNums_size]
      rw [e10] at hset
      exact hset
    · rw [if_neg hc, if_neg hc]; exact ⟨k1, rfl⟩
  · rw [if_neg h0, if_neg h0]; exact ⟨h, rfl⟩
theorem sim_dir (h : Sim A R) (hI : Inv A n) : Sim (dirA A).1 (syncDirR R).1 ∧ (syncDirR R).2 = (dirA A).2 := by
  obtain ⟨k1, k2, -, -⟩ := h.step hI.l.1
  unfold dirA syncDirR doneA
  rw [k2]
  by_cases hc : (stepA A).2.2 = 0
  · rw [if_pos hc, if_pos hc]
    have hnow := k1.now hI.step
    refine ⟨⟨k1.room, k1.steps, k1.left, k1.plan, k1.planL, k1.created, k1.inj, k1.file, k1.row, rfl, fun c hc => (by cases hc), fun i => ?_, fun i x hx => ?_, rfl⟩, rfl⟩
    all_goals
      have e1 : preD { (stepA A).1 with sure := (stepA A).1.now, since := [] } i = (stepA A).1.now := by unfold preD; simp
      have e2 : preR { (stepR R).1 with sure := (stepR R).1.dir, changes := [] } i = (stepR R).1.dir := by unfold preR; simp
    · rw [e1, e2]; exact hnow
    · rw [e2, k1.dir] at hx; exact k1.good _ x hx
  · rw [if_neg hc, if_neg hc]; exact ⟨k1, rfl⟩
theorem findA_good {A : FsA} {s : ByteArray} (h0 : (findA A s).2 = 0) : nameB s = true := by
  unfold findA at h0
  split at h0
  · assumption
  · cases h0
theorem sim_remove (h : Sim A R) (hI : Inv A n) (s : ByteArray) : Sim (removeA A s).1 (removeR R s).1 ∧ (removeR R s).2 = (removeA A s).2 := by
  obtain ⟨k1, k2, -, -⟩ := h.step hI.l.1
  obtain ⟨o1, -⟩ := h.open_ hI s
  unfold removeA removeR doneA
  rw [o1]
  by_cases h0 : (findA A s).2 = 0
  · rw [if_pos h0, if_pos h0, k2]
    by_cases hc : (stepA A).2.2 = 0
    · rw [if_pos hc, if_pos hc]
      refine ⟨k1.change (.remove s) [(s, -1)] (by simp) (fun x hx => by rw [List.mem_singleton] at hx; subst hx; exact findA_good h0) ?_, rfl⟩
      have hnow := k1.now hI.step
      have hI1 := hI.step
      rw [hI1.now] at hnow
      exact hnow.del s
    · rw [if_neg hc, if_neg hc]; exact ⟨k1, rfl⟩
  · rw [if_neg h0, if_neg h0]; exact ⟨h, rfl⟩
theorem sim_rename (h : Sim A R) (hI : Inv A n) (a b : ByteArray) : Sim (renameA A a b).1 (renameR R a b).1 ∧ (renameR R a b).2 = (renameA A a b).2 := by
  obtain ⟨k1, k2, -, -⟩ := h.step hI.l.1
  unfold renameA renameR doneA
  by_cases hn : nameB a = true ∧ nameB b = true
  · rw [if_pos hn, if_pos hn]
    rcases h.find hI a with ⟨h1, h2⟩ | ⟨c, f, h1, h2, h3, h4, h5, _⟩
    · rw [h1, h2, if_pos (show (none : Option Nat) = none from rfl), if_pos (show (-1 : Int) < 0 by decide)]; exact ⟨h, rfl⟩
    · rw [h1, h3, if_neg (show ¬ (some c = none) by simp), if_neg (show ¬ f.num < 0 by omega), k2]
      by_cases hc : (stepA A).2.2 = 0
      · rw [if_pos hc, if_pos hc]
        refine ⟨k1.change (.rename a b) [(a, -1), (b, f.num)] (by simp) (fun x hx => by
          rcases List.mem_cons.1 hx with rfl | hx
          · exact hn.1
          · rw [List.mem_singleton] at hx; subst hx; exact hn.2) ?_, rfl⟩
        have hI1 := hI.step
        have hnow := k1.now hI1
        have hT := hI1.tidyNow
        have hst := stepA_same A
        have hdg : dget (stepA A).1.now a = some c := by rw [hst.1]; exact h1
        rw [hI1.now] at hnow hT hdg
        have hd := hnow.del a
        have hfl : (stepA A).1.file c = some f := by rw [hst.2.2.2.1]; exact h2
        have hp := hd.put ((hT.del _).isMap) (s := b) hfl ⟨h4, by rw [(stepR_same R).1]; exact h5⟩
        show Rep _ _ (((preD (stepA A).1 (stepA A).1.since.length).del (keyL a)).put (keyL b) (datOf (dget (preD (stepA A).1 (stepA A).1.since.length) a))) _
        rw [hdg]
        exact hp
      · rw [if_neg hc, if_neg hc]; exact ⟨k1, rfl⟩
  · rw [if_neg hn, if_neg hn]; exact ⟨h, rfl⟩
theorem sim_arm (h : Sim A R) (k : Int) : Sim (armA A k).1 (armR R k).1 ∧ (armR R k).2 = (armA A k).2 := by
  have hd : deadB A.armed A.left = true ↔ R.left = 0 := by
    rw [h.left]; unfold deadB
    cases A.armed <;> simp
  unfold armA armR
  by_cases hk : k < 0
  · rw [if_pos hk, if_pos hk]; exact ⟨h, rfl⟩
  · rw [if_neg hk, if_neg hk]
    by_cases h0 : R.left = 0
    · rw [if_pos h0, if_pos (hd.2 h0)]; exact ⟨h, rfl⟩
    · rw [if_neg h0, if_neg (fun e => h0 (hd.1 e))]
      exact ⟨⟨h.room, h.steps, rfl, h.plan, h.planL, h.created, h.inj, h.file, h.row, h.chg, h.each, h.dirs, h.good, h.dir⟩, rfl⟩
theorem sim_plan (h : Sim A R) (l : List Int) (hl : l.length < 1000) : Sim { A with plan := l } { R with plan := l } :=
  ⟨h.room, h.steps, h.left, rfl, hl, h.created, h.inj, h.file, h.row, h.chg, h.each, h.dirs, h.good, h.dir⟩
theorem str_append (p q : List Int) : strOfNums p ++ strOfNums q = strOfNums (p ++ q) := by apply ByteArray.ext; simp [strOfNums]
theorem str_cut0 (p : List Int) (k : Nat) : (strOfNums p).extract 0 k = strOfNums (p.take k) := by apply ByteArray.ext; simp [strOfNums]
theorem appendA_err {A : FsA} {s : ByteArray} {p : List Int} (h0 : ¬ (findA A s).2 = 0) : appendA A s p = (A, (findA A s).2) := by
  unfold appendA
  generalize findA A s = q at h0
  obtain ⟨q1, q2⟩ := q
  simp only at h0
  split
  · rename_i heq; cases heq; exact absurd rfl h0
  · rename_i heq; cases heq; rfl
theorem sim_append (h : Sim A R) (hI : Inv A n) (s : ByteArray) (p : List Int) : Sim (appendA A s p).1 (appendR R s (strOfNums p)).1 ∧ (appendR R s (strOfNums p)).2 = (appendA A s p).2 := by
  obtain ⟨k1, k2, k3, k4⟩ := h.step hI.l.1
  obtain ⟨o1, o2⟩ := h.open_ hI s
  have hus := h.used hI
  unfold appendR
  rw [o1]
  by_cases h0 : (findA A s).2 = 0
  · unfold appendA
    obtain ⟨b, f, e1, e2, e3, e4, e5, e6, e7⟩ := o2 h0
    rw [e1]
    simp only [e3, if_true]
    unfold putA
    rw [e4, e6, k2]
    have hsz : (filR f).1.size + (strOfNums p).size = f.data.length + p.length := by unfold filR; rw [strOfNums_size, strOfNums_size]
    rw [hsz]
    by_cases hbig : 65536 < f.data.length + p.length
    · rw [if_pos hbig, if_pos hbig]; exact ⟨h, rfl⟩
    · rw [if_neg hbig, if_neg hbig]
      have hroom : (stepR R).1.room - (usedR (stepR R).1 : Int) = A.room - (usedA A : Int) := by
        have hst := stepR_same R
        have : usedR (stepR R).1 = usedR R := by unfold usedR szR; rw [hst.2.1, hst.1]
        rw [this, hst.2.2.2.2, h.room, hus]
      rw [hroom, strOfNums_size]
      have hfb : (stepA A).1.file b = some f := by rw [(stepA_same A).2.2.2.1]; exact e3
      have hsh := hI.short b f e3
      have hset : ∀ q : List Int, q.length ≤ p.length → Sim (withData (stepA A).1 b f q) (setR (stepR R).1 f.num.toNat ((filR f).1 ++ strOfNums q, (filR f).2)) := fun q hq => by
        have := k1.setFile (f' := { f with data := f.data ++ q }) hfb rfl (by rw [List.length_append]; omega) (by show f.sure ≤ (f.data ++ q).length; rw [List.length_append]; omega)
        have e10 : filR { f with data := f.data ++ q } = ((filR f).1 ++ strOfNums q, (filR f).2) := by unfold filR; rw [str_append]
        rw [e10] at this
        exact this
      by_cases hc : (stepA A).2.2 = 0
      · rw [if_pos hc]
        by_cases hr : A.room - (usedA A : Int) < p.length
        · rw [if_pos hr, if_pos ⟨hc, hr⟩]; exact ⟨k1, rfl⟩
        · rw [if_neg hr, if_neg (fun e => hr e.2)]
          refine ⟨?_, hc⟩
          have hp0 : putR (stepR R).2.1 (stepA A).2.2 p.length (A.room - (usedA A : Int)) = (p.length : Int) := if_pos hc
          rw [hp0, Int.toNat_natCast, str_cut0, List.take_of_length_le (Nat.le_refl _)]
          exact hset p (Nat.le_refl _)
      · rw [if_neg hc, if_neg (fun e => hc e.1)]
        refine ⟨?_, rfl⟩
        have hp0 : (putR (stepR R).2.1 (stepA A).2.2 p.length (A.room - (usedA A : Int))).toNat = (partOf (stepA A).2.1 p.length (A.room - (usedA A : Int))).toNat := by
          unfold putR partOf
          rw [if_neg hc]
          by_cases h2 : 2 < (stepR R).2.1
          · rw [k3 h2]
            have hcode : (stepA A).2.2 = 20 := by
              rw [← k2]
              unfold stepR at h2 k2 ⊢
              split at h2
              · simp at h2
              · rename_i hl
                rw [if_neg hl]
                show codeR (howR R.plan) = 20
                have h2' : 2 < howR R.plan := h2
                unfold codeR
                rw [if_neg (by omega), if_neg (by omega)]
            rw [if_pos ⟨hcode, h2⟩]
          · have := k4 h2
            rw [if_neg (fun e => h2 e.2)]
            omega
        rw [hp0, str_cut0]
        exact hset _ (by rw [List.length_take]; omega)
  · rw [if_neg h0, appendA_err h0]; exact ⟨h, rfl⟩
end
end Go.Proofs.YtigbgajelkknbaaGreatDoor
namespace Go.Proofs.YtigbgajelkknbaaGreatDoor
open Go.RowKit Go.Maps Go.WideMaps
set_option maxRecDepth 100000

section
variable {A : FsA} {n : Nat}
theorem inv_create (h : Inv A n) (s : ByteArray) (b : Nat) : Inv (createA A s b).1 (n + 3) := by
  unfold createA
  split
  · rename_i hn
    split
    · exact h.mono (by omega)
    · split
      · exact h.mono (by omega)
      · split
        · have h1 := h.step
          have h2 := h1.setF (b := b) (f := ⟨(stepA A).1.created, [], 0⟩) (by simp) (Nat.zero_le _) ⟨h1.cr.1, h1.cr.2⟩
          have h3 := h2.change (c := .create s b) ⟨(nameB_size hn).2, ⟨(stepA A).1.created, [], 0⟩, by show (if b = b then _ else _) = _; rw [if_pos rfl]⟩
          exact h3.created
        · exact h.step.mono (by omega)
  · exact h.mono (by omega)
theorem inv_append (h : Inv A n) (s : ByteArray) (p : List Int) : Inv (appendA A s p).1 (n + 3) := by
  by_cases h0 : (findA A s).2 = 0
  · obtain ⟨b, f, e1, e2⟩ := findA_ok h0 h.named
    unfold appendA
    rw [e1]
    simp only [e2]
    unfold putA
    have h1 := h.step
    have hnum := h.num b f e2
    have hsh := h.short b f e2
    split
    · exact h.mono (by omega)
    · rename_i hbig
      split
      · split
        · exact h1.mono (by omega)
        · exact (h1.setF (b := b) (f := { f with data := f.data ++ p }) (by rw [List.length_append]; omega) (by show f.sure ≤ (f.data ++ p).length; rw [List.length_append]; omega) ⟨hnum.1, by show f.num ≤ ((n + 1 : Nat) : Int); omega⟩).mono (by omega)
      · refine (h1.setF (b := b) (f := { f with data := f.data ++ p.take _ }) ?_ ?_ ⟨hnum.1, by show f.num ≤ ((n + 1 : Nat) : Int); omega⟩).mono (by omega)
        · rw [List.length_append, List.length_take]; omega
        · show f.sure ≤ (f.data ++ p.take _).length; rw [List.length_append]; omega
  · rw [appendA_err h0]; exact h.mono (by omega)
theorem inv_sync (h : Inv A n) (s : ByteArray) : Inv (syncA A s).1 (n + 3) := by
  unfold syncA
  by_cases h0 : (findA A s).2 = 0
  · obtain ⟨b, f, e1, e2⟩ := findA_ok h0 h.named
    rw [if_pos h0]
    unfold doneA
    split
    · have hfb : (stepA A).1.file b = some f := by rw [(stepA_same A).2.2.2.1]; exact e2
      have hnum := h.num b f e2
      have hsh := h.short b f e2
      have e9 : ({ (stepA A).1 with file := fun k => if some k = (findA A s).1 then ((stepA A).1.file k).map (fun f => { f with sure := f.data.length }) else (stepA A).1.file k } : FsA) = setF (stepA A).1 b { f with sure := f.data.length } := by
        unfold setF
        simp only [e1]
        congr 1
        funext k
        by_cases hk : k = b
        · subst hk; simp [hfb]
        · rw [if_neg (fun e => hk (Option.some.inj e)), if_neg hk]
      show Inv ({ (stepA A).1 with file := fun k => if some k = (findA A s).1 then ((stepA A).1.file k).map (fun f => { f with sure := f.data.length }) else (stepA A).1.file k } : FsA) _
      rw [e9]
      exact (h.step.setF (b := b) (f := { f with sure := f.data.length }) hsh.1 (Nat.le_refl _) ⟨hnum.1, by show f.num ≤ ((n + 1 : Nat) : Int); omega⟩).mono (by omega)
    · exact h.step.mono (by omega)
  · rw [if_neg h0]; exact h.mono (by omega)
theorem inv_dir (h : Inv A n) : Inv (dirA A).1 (n + 3) := by
  unfold dirA doneA
  split
  · exact h.step.dir.mono (by omega)
  · exact h.step.mono (by omega)
theorem inv_remove (h : Inv A n) (s : ByteArray) : Inv (removeA A s).1 (n + 3) := by
  unfold removeA doneA
  split
  · split
    · exact (h.step.change (c := .remove s) trivial).mono (by omega)
    · exact h.step.mono (by omega)
  · exact h.mono (by omega)
theorem inv_rename (h : Inv A n) (a b : ByteArray) : Inv (renameA A a b).1 (n + 3) := by
  unfold renameA doneA
  split
  · rename_i hn
    split
    · exact h.mono (by omega)
    · rename_i hd
      split
      · refine (h.step.change (c := .rename a b) ⟨(nameB_size hn.2).2, ?_⟩).mono (by omega)
        rw [(stepA_same A).1]
        cases e : dget A.now a with
        | none => exact absurd e hd
        | some x => exact ⟨x, rfl⟩
      · exact h.step.mono (by omega)
  · exact h.mono (by omega)
theorem inv_arm (h : Inv A n) (k : Int) (hk : k ≤ 9223372036854775807) : Inv (armA A k).1 (n + 3) := by
  unfold armA
  split
  · exact h.mono (by omega)
  · split
    · exact h.mono (by omega)
    · have hm := h.mono (show n ≤ n + 3 by omega)
      exact ⟨hm.c, ⟨by show 0 ≤ k; omega, hk⟩, hm.p, hm.po, hm.room, hm.cr, hm.since, hm.now, hm.size, hm.tidy, hm.ok, hm.short, hm.num⟩
theorem inv_plan (h : Inv A n) (l : List Int) (hl : l.length < 1000) (hp : ∀ k ∈ l, k ≤ 9223372036854775807) : Inv { A with plan := l } (n + 3) := by
  have hm := h.mono (show n ≤ n + 3 by omega)
  exact ⟨hm.c, hm.l, by show l.length < _; omega, hp, hm.room, hm.cr, hm.since, hm.now, hm.size, hm.tidy, hm.ok, hm.short, hm.num⟩
end
section
variable {A : FsA} {L : DataW Unit} {tails : List Int}
theorem fold_at : ∀ (l : List (List UInt8 × Nat)) (X : FsA) (k : Nat), X.created = k → (l.map Prod.snd).Nodup → ∀ (i : Nat) (p : List UInt8 × Nat), l[i]? = some p →
    (l.foldl (crashStep A L tails) X).file p.2 = some (crashedF (fileOf A L p.1) (tails.getD (fileOf A L p.1).num.toNat 0) ((k + i : Nat) : Int))
  | [], _, _, _, _, i, p, h => by cases h
  | q :: l, X, k, hc, hnd, 0, p, h => by
    cases h
    rw [List.map_cons, List.nodup_cons] at hnd
    rw [List.foldl_cons, fold_file_other l _ hnd.1]
    show (if q.2 = q.2 then some (crashedF _ _ X.created) else _) = _
    rw [if_pos rfl, hc]; rfl
  | q :: l, X, k, hc, hnd, i + 1, p, h => by
    rw [List.map_cons, List.nodup_cons] at hnd
    rw [List.foldl_cons, fold_at l _ (k + 1) (by show X.created + 1 = _; rw [hc]; try rfl) hnd.2 i p (by simpa using h)]
    rw [show k + 1 + i = k + (i + 1) by omega]
end
theorem numb_get (D : List RN) {i : Nat} (hi : i < D.length) : (numb D)[i]? = some ((D[i]).1, (i : Int)) := by
  unfold numb
  rw [List.getElem?_map, List.getElem?_zipIdx, List.getElem?_eq_getElem hi]
  simp
theorem numb_rise {D : List RN} (h : Rising D) : Rising (numb D) := by
  have e : (numb D).map nmL = D.map nmL := by
    apply List.ext_getElem?
    intro i
    rw [List.getElem?_map, List.getElem?_map]
    by_cases hi : i < D.length
    · rw [numb_get D hi, List.getElem?_eq_getElem hi]; rfl
    · rw [List.getElem?_eq_none (by rw [numb_length]; omega), List.getElem?_eq_none (by omega)]
  unfold Rising at h ⊢
  rw [← List.pairwise_map (f := nmL) (R := fun a b => a < b)] at h ⊢
  rw [e]; exact h
theorem cut_filR (f : Fil) (t num : Int) (hs : f.sure ≤ f.data.length) : ((filR f).1.extract 0 (cutN (filR f) t).toNat, cutN (filR f) t) = filR (crashedF f t num) := by
  have e : cutN (filR f) t = (leftN f t : Int) := by
    unfold cutN leftN withinOf filR
    simp only [strOfNums_size]
    split
    · split <;> omega
    · omega
  rw [e, Int.toNat_natCast]
  unfold crashedF filR
  simp only [str_cut0]
theorem sim_crash {A : FsA} {R : RSt} {n : Nat} (h : Sim A R) (hI : Inv A n) (dirs : Int) (tails : List Int) (bs : List Nat) (hbl : bs.length = (namesD (leftD A dirs)).length) (hnd : bs.Nodup) : Sim (crashA A dirs tails bs) (crashR R dirs tails) := by
  have hm : (withinOf dirs A.since.length).toNat = doneR R dirs := by unfold withinOf doneR; rw [h.chg]
  have hrep := h.dirs (doneR R dirs)
  have hT := hI.tidy (doneR R dirs)
  have hO := hI.ok (doneR R dirs)
  have hnm := hrep.names h.fl hT hO
  have hL : leftD A dirs = preD A (doneR R dirs) := by unfold leftD; rw [hm]
  rw [hL] at hbl
  have hX : crashA A dirs tails bs = { crashX A (preD A (doneR R dirs)) tails ((namesD (preD A (doneR R dirs))).zip bs) with sure := (crashX A (preD A (doneR R dirs)) tails ((namesD (preD A (doneR R dirs))).zip bs)).now } := by unfold crashA; rw [hL]
  have hCI := hI.crash (dirs := dirs) (tails := tails) (bs := bs) (by rw [hL]; exact hbl)
  generalize hLL : preD A (doneR R dirs) = L at hrep hT hO hnm hbl hX
  have hR : crashR R dirs tails = { emptyR with room := R.room, left := -1, files := (preR R (doneR R dirs)).map (fun d => cutR R tails d.2.toNat), dir := numb (preR R (doneR R dirs)), sure := numb (preR R (doneR R dirs)) } := rfl
  have hgood := h.good (doneR R dirs)
  generalize preR R (doneR R dirs) = D at hrep hnm hR hgood
  rw [hnm] at hbl hX
  rw [List.length_map] at hbl
  have hbi : ∀ i, i < D.length → i < bs.length := fun i hi => by omega
  obtain ⟨l, hl⟩ : ∃ l, l = (D.map nmL).zip bs := ⟨_, rfl⟩
  rw [← hl] at hX
  have hll : l.length = D.length := by rw [hl, List.length_zip, List.length_map]; omega
  have hget : ∀ i (hi : i < D.length), l[i]? = some (nmL D[i], bs[i]'(hbi i hi)) := fun i hi => by
    rw [hl, List.getElem?_zip_eq_some]
    exact ⟨by rw [List.getElem?_map, List.getElem?_eq_getElem hi]; rfl, List.getElem?_eq_getElem (hbi i hi)⟩
  have hn1 : (l.map Prod.fst).Nodup := by rw [hl, List.map_fst_zip (by rw [List.length_map]; omega)]; exact rise_nodup hrep.rise
  have hn2 : (l.map Prod.snd).Nodup := by rw [hl, List.map_snd_zip (by rw [List.length_map]; omega)]; exact hnd
  have hbase := crashX_base A L tails l (newA A.room) ⟨rfl, rfl, rfl, rfl, rfl, rfl⟩
  -- the file that a name of D has
  have hfo : ∀ i (hi : i < D.length), ∃ f, fileOf A L (nmL D[i]) = f ∧ f.sure ≤ f.data.length ∧ f.data.length ≤ 65536 ∧ f.num = D[i].2 ∧ 0 ≤ f.num ∧ fileR R f.num.toNat = filR f := fun i hi => by
    rcases hrep.look D[i].1 with ⟨h1, _⟩ | ⟨b, f, h1, h2, h3⟩
    · have := (hrep.mem h.fl D[i].1).2 ⟨D[i], List.getElem_mem hi, rfl⟩
      rw [h1] at this
      obtain ⟨b, hb⟩ := this; cases hb
    · obtain ⟨q1, q2⟩ := h.file b f h2
      have hs := hI.short b f h2
      refine ⟨f, ?_, hs.2, hs.1, ?_, q1, ?_⟩
      · unfold fileOf nmL; rw [bytes_back, h1]; simp [h2]
      · rw [← h3]; exact findR_mem D hrep.rise (List.getElem_mem hi)
      · unfold fileR; rw [List.getD_eq_getElem?_getD, q2]; rfl
  have hfile : ∀ i (hi : i < D.length), ∃ f, (crashA A dirs tails bs).file (bs[i]'(hbi i hi)) = some (crashedF f (tails.getD f.num.toNat 0) (i : Nat)) ∧ f.sure ≤ f.data.length ∧ f.data.length ≤ 65536 ∧ cutR R tails D[i].2.toNat = filR (crashedF f (tails.getD f.num.toNat 0) (i : Nat)) := fun i hi => by
    obtain ⟨f, e1, e2, e3, e4, e5, e6⟩ := hfo i hi
    have h9 := fold_at (A := A) (L := L) (tails := tails) l (newA A.room) 0 rfl hn2 i _ (hget i hi)
    rw [e1, Nat.zero_add] at h9
    refine ⟨f, by rw [hX]; exact h9, e2, e3, ?_⟩
    unfold cutR
    rw [← e4, e6]
    exact cut_filR f _ _ e2
  have hback : ∀ b f, (crashA A dirs tails bs).file b = some f → ∃ i, ∃ (hi : i < D.length), bs[i]'(hbi i hi) = b ∧ f.num = i ∧ f = crashedF (fileOf A L (nmL D[i])) (tails.getD (fileOf A L (nmL D[i])).num.toNat 0) (i : Nat) := fun b f hf => by
    rw [hX] at hf
    have hf' : (l.foldl (crashStep A L tails) (newA A.room)).file b = some f := hf
    by_cases hb : b ∈ l.map Prod.snd
    · obtain ⟨p, hp, hpe⟩ := List.mem_map.1 hb
      obtain ⟨i, hi, rfl⟩ := List.getElem_of_mem hp
      have hi' : i < D.length := by omega
      have hg := hget i hi'
      rw [List.getElem?_eq_getElem hi] at hg
      have hg := Option.some.inj hg
      have h9 := fold_at (A := A) (L := L) (tails := tails) l (newA A.room) 0 rfl hn2 i _ (List.getElem?_eq_getElem hi)
      rw [hpe, hf', Nat.zero_add, hg] at h9
      have h9 := Option.some.inj h9
      exact ⟨i, hi', by rw [← hpe, hg], by rw [h9]; rfl, h9⟩
    · rw [fold_file_other l _ hb] at hf'; cases hf'
  have hRl : (crashR R dirs tails).files.length = D.length := by rw [hR]; simp
  refine ⟨by rw [hX, hR]; exact (h.room.trans hbase.2.2.2.2.2.symm), by rw [hX, hR]; exact hbase.1.symm, ?_, by rw [hX, hR]; exact hbase.2.2.2.1.symm, ?_, ?_, ?_, ?_, ?_, ?_, ?_, ?_, ?_, ?_⟩
  · rw [hX, hR]
    show (-1 : Int) = if (crashX A L tails l).armed = true then _ else -1
    rw [show (crashX A L tails l).armed = false from hbase.2.1]; rfl
  · rw [hX]; show (crashX A L tails l).plan.length < 1000
    rw [show (crashX A L tails l).plan = [] from hbase.2.2.2.1]; show 0 < 1000; omega
  · rw [hRl, hX]
    have hM := Mid.fold (L := L) (tails := tails) (room := A.room) hI.short l (newA A.room) 0 (Mid.new A.room) fun p hp => by
      obtain ⟨i, hi, rfl⟩ := List.getElem_of_mem hp
      have hg := hget i (by omega)
      rw [List.getElem?_eq_getElem hi] at hg
      rw [Option.some.inj hg]
      have hmem : nmL D[i] ∈ namesD L := by rw [hnm]; exact List.mem_map.2 ⟨D[i], List.getElem_mem _, rfl⟩
      obtain ⟨_, _, _, _, h20⟩ := name_file hO hmem
      exact h20
    rw [Nat.zero_add, hll] at hM
    exact hM.created
  · intro b1 b2 f1 f2 h1 h2 he
    obtain ⟨i, hi, e1, e2, _⟩ := hback b1 f1 h1
    obtain ⟨j, hj, e3, e4, _⟩ := hback b2 f2 h2
    have : i = j := by omega
    subst this
    rw [← e1, ← e3]
  · intro b f hf
    obtain ⟨i, hi, e1, e2, e3⟩ := hback b f hf
    refine ⟨by omega, ?_⟩
    obtain ⟨f0, g1, _, _, g4⟩ := hfile i hi
    rw [e1, hf] at g1
    rw [e2, Int.toNat_natCast, hR]
    show (D.map fun d => cutR R tails d.2.toNat)[i]? = _
    rw [List.getElem?_map, List.getElem?_eq_getElem hi]
    show some (cutR R tails D[i].2.toNat) = _
    rw [g4, ← Option.some.inj g1]
  · intro x hx
    rw [hR] at hx
    have hx' : x ∈ D.map fun d => cutR R tails d.2.toNat := hx
    obtain ⟨d, hd, rfl⟩ := List.mem_map.1 hx'
    obtain ⟨i, hi, rfl⟩ := List.getElem_of_mem hd
    obtain ⟨f0, _, g2, g3, g4⟩ := hfile i hi
    rw [g4]
    have := leftN_le f0 (tails.getD f0.num.toNat 0) g2
    unfold filR crashedF
    simp only [strOfNums_size, List.length_take]
    omega
  · rw [hX, hR]; show (crashX A L tails l).since.length = 0
    rw [show (crashX A L tails l).since = [] from hbase.2.2.2.2.1]; rfl
  · intro c hc; rw [hR] at hc; cases hc
  · intro i
    have e1 : preD (crashA A dirs tails bs) i = (crashA A dirs tails bs).now := by
      unfold preD
      rw [show (crashA A dirs tails bs).since = [] by rw [hX]; exact hbase.2.2.2.2.1, show (crashA A dirs tails bs).sure = (crashA A dirs tails bs).now by rw [hX]]
      simp
    have e2 : preR (crashR R dirs tails) i = numb D := by rw [hR]; unfold preR; simp [emptyR]
    rw [e1, e2, hRl]
    refine ⟨numb_rise hrep.rise, fun x hx => ?_, fun s => ?_⟩
    · obtain ⟨j, hj, rfl⟩ := List.getElem_of_mem hx
      rw [numb_length] at hj
      have := numb_get D hj
      rw [List.getElem?_eq_getElem (by rw [numb_length]; exact hj)] at this
      rw [Option.some.inj this]
      show 0 ≤ (j : Int) ∧ (j : Int) < _
      omega
    · by_cases hs : ∃ x ∈ D, x.1 = s
      · obtain ⟨x, hx, rfl⟩ := hs
        obtain ⟨j, hj, rfl⟩ := List.getElem_of_mem hx
        obtain ⟨f0, g1, _, _, _⟩ := hfile j hj
        refine .inr ⟨_, _, ?_, g1, ?_⟩
        · have hz : (nmL D[j], bs[j]'(hbi j hj)) ∈ l := List.mem_of_getElem? (hget j hj)
          have hgg := (fold_get (A := A) (L := L) (tails := tails) l (newA A.room) Maps.isMap_empty hn1 hn2 hz).1
          unfold nmL at hgg
          rw [bytes_back] at hgg
          rw [hX]; exact hgg
        · have hmem : ((D[j]).1, (j : Int)) ∈ numb D := List.mem_of_getElem? (numb_get D hj)
          have := findR_mem (numb D) (numb_rise hrep.rise) hmem
          rw [this]; rfl
      · refine .inl ⟨?_, findR_none _ fun x hx e => ?_⟩
        · have hno : s.data.toList ∉ l.map Prod.fst := by
            rw [hl, List.map_fst_zip (by rw [List.length_map]; omega)]
            intro hm
            obtain ⟨x, hx, e⟩ := List.mem_map.1 hm
            exact hs ⟨x, hx, data_inj e⟩
          rw [hX]
          have := fold_get_other (A := A) (L := L) (tails := tails) l (newA A.room) hno
          rw [bytes_back] at this
          exact this
        · obtain ⟨j, hj, rfl⟩ := List.getElem_of_mem hx
          rw [numb_length] at hj
          have := numb_get D hj
          rw [List.getElem?_eq_getElem (by rw [numb_length]; exact hj)] at this
          rw [Option.some.inj this] at e
          exact hs ⟨D[j], List.getElem_mem _, e⟩
  · intro i x hx
    have e2 : preR (crashR R dirs tails) i = numb D := by rw [hR]; unfold preR; simp [emptyR]
    rw [e2] at hx
    obtain ⟨j, hj, rfl⟩ := List.getElem_of_mem hx
    rw [numb_length] at hj
    have := numb_get D hj
    rw [List.getElem?_eq_getElem (by rw [numb_length]; exact hj)] at this
    rw [Option.some.inj this]
    exact hgood D[j] (List.getElem_mem hj)
  · rw [hR]; unfold preR; simp [emptyR]
end Go.Proofs.YtigbgajelkknbaaGreatDoor
namespace Go.Proofs.YtigbgajelkknbaaGreatDoor
open Go.RowKit Go.Maps Go.WideMaps
set_option maxRecDepth 100000

/-- A file system in blocks of S, all made since w0. -/
structure PF (w0 w : World) (g : Nat) (S : Nat → Prop) (A : FsA) : Prop where
  fs : Fs w g S A
  lo : ∀ k, S k → w0.heap.size ≤ k ∧ k < w.heap.size
  base : Below w0.heap.size w0 w
/-- From w to w' but blocks of S and new ones are as they were; S' has no other. -/
structure Adv (S S' : Nat → Prop) (w w' : World) : Prop where
  keep : Keep S w w'
  more : ∀ k, S' k → S k ∨ w.heap.size ≤ k
section
variable {w0 w w' w'' : World} {g : Nat} {S S' S'' T : Nat → Prop} {A A' : FsA} {n : Nat}
theorem Adv.refl (S : Nat → Prop) (w : World) : Adv S S w w := ⟨Keep.refl _ _, fun _ h => .inl h⟩
theorem Adv.of_below (h : Below w.heap.size w w') : Adv S S w w' := ⟨Keep.of_below h, fun _ h => .inl h⟩
theorem Adv.trans (h1 : Adv S S' w w') (h2 : Adv S' S'' w' w'') : Adv S S'' w w'' :=
  ⟨⟨h2.keep.os.trans h1.keep.os, h2.keep.tape.trans h1.keep.tape, h2.keep.output.trans h1.keep.output, Nat.le_trans h1.keep.size h2.keep.size, fun k hk hS =>
    (h2.keep.block k (Nat.lt_of_lt_of_le hk h1.keep.size) fun e => (h1.more k e).elim hS fun e => by omega).trans (h1.keep.block k hk hS)⟩,
    fun k hk => (h2.more k hk).elim (h1.more k) fun e => .inr (Nat.le_trans h1.keep.size e)⟩
theorem Adv.block (h : Adv S S' w w') {k : Nat} (hk : k < w.heap.size) (hS : ¬ S k) : w'.heap[k]? = w.heap[k]? ∧ ¬ S' k := ⟨h.keep.block k hk hS, fun e => (h.more k e).elim hS fun e => by omega⟩
theorem Adv.blk (h : Adv S S' w w') {k : Nat} {t : TypeId} {cs : List Value} (hb : Blk w k t cs) (hS : ¬ S k) : Blk w' k t cs ∧ ¬ S' k := ⟨(h.block hb.lt hS).1.trans hb, (h.block hb.lt hS).2⟩
theorem Adv.rfs {v : Value} {R : RSt} (h : Adv S S' w w') (hr : RFs (fun k => ¬ S k) w v R) : RFs (fun k => ¬ S' k) w' v R :=
  (hr.lt.to fun _ hk => (h.block hk.2 hk.1).1).mono fun _ hk => (h.block hk.2 hk.1).2
theorem PF.next (h : PF w0 w g S A) (hF : Fs w' g (grow S w w') A') (hK : Keep S w w') : PF w0 w' g (grow S w w') A' ∧ Adv S (grow S w w') w w' :=
  ⟨⟨hF, fun k hk => hk.elim (fun e => ⟨(h.lo k e).1, Nat.lt_of_lt_of_le (h.lo k e).2 hK.size⟩) (fun e => ⟨Nat.le_trans h.base.size e.1, e.2⟩),
    ⟨hK.os.trans h.base.os, hK.tape.trans h.base.tape, hK.output.trans h.base.output, Nat.le_trans h.base.size hK.size, fun k hk => (hK.block k (Nat.lt_of_lt_of_le hk h.base.size) fun hS => by have := (h.lo k hS).1; omega).trans (h.base.block k hk)⟩⟩,
    ⟨hK, fun k hk => hk.imp id fun e => e.1⟩⟩
theorem PF.same (h : PF w0 w g S A) (hF : Fs w' g S A') (hK : Keep S w w') : PF w0 w' g (grow S w w') A' ∧ Adv S (grow S w w') w w' := h.next (hF.to grow_left fun _ _ _ => rfl) hK
theorem PF.below (h : PF w0 w g S A) (hb : Below w.heap.size w w') : PF w0 w' g S A :=
  ⟨h.fs.below hb, fun k hk => ⟨(h.lo k hk).1, Nat.lt_of_lt_of_le (h.lo k hk).2 hb.size⟩, h.base.trans (hb.mono h.base.size)⟩
/-- The reference's own call: new blocks alone. -/
theorem PF.rfs {v : Value} {R : RSt} (h : PF w0 w g S A) (hr : RFs (fun k => ¬ S k ∨ w.heap.size ≤ k) w' v R) : RFs (fun k => ¬ S k) w' v R :=
  hr.mono fun k hk hS => hk.elim (fun e => e hS) fun e => by have := (h.lo k hS).2; omega
/-- What a call of the program answers, and what it makes of the file system. -/
def Done (w0 w : World) (g : Nat) (S : Nat → Prop) (A' : FsA) (r : Value) (e : Ending) (w' : World) : Prop := ∃ S', e = .returned r ∧ PF w0 w' g S' A' ∧ Adv S S' w w'
theorem create_pf (s : ByteArray) (h : PF w0 w g S A) (hI : Inv A n) (hn : n < 900) (hs : s.size ≤ 9223372036854775807) :
    Calls Tryz.prog 43 #[.pointer (some ⟨g, 0, none⟩), .string s] w fun e w' => ∃ b, A.file b = none ∧ Done w0 w g S (createA A s b).1 (.int .i64 (createA A s b).2) e w' := by
  have h1 := hI.cr
  have h2 := hI.sizeNow
  have h3 := hI.since
  exact (create_any g S A s w h.fs (hI.Num (by omega)) hs (by omega) (by omega) (by omega)).mono fun e w' ⟨b, hb, he, hF, hK⟩ => ⟨b, h.fs.ge hb, _, he, h.next hF hK⟩
theorem append_pf (s : ByteArray) (v : Value) (p : List Int) (h : PF w0 w g S A) (hI : Inv A n) (hn : n < 900) (hs : s.size ≤ 9223372036854775807) (hp : Bytes w v p) (hpl : p.length ≤ 500000) (hv : ∀ x, Live v x → ¬ S x) :
    Calls Tryz.prog 44 #[.pointer (some ⟨g, 0, none⟩), .string s, v] w fun e w' => Done w0 w g S (appendA A s p).1 (.int .i64 (appendA A s p).2) e w' := by
  have h2 := hI.sizeNow
  exact (append_any g S A s v p w h.fs (hI.Num (by omega)) hI.po hI.okNow hI.short (by omega) hI.room hs hp hpl hv).mono fun e w' ⟨he, hF, hK⟩ => ⟨_, he, h.next hF hK⟩
theorem sync_pf (s : ByteArray) (h : PF w0 w g S A) (hI : Inv A n) (hn : n < 900) (hs : s.size ≤ 9223372036854775807) :
    Calls Tryz.prog 53 #[.pointer (some ⟨g, 0, none⟩), .string s] w fun e w' => Done w0 w g S (syncA A s).1 (.int .i64 (syncA A s).2) e w' :=
  (sync_any g S A s w h.fs (hI.Num (by omega)) hI.named hs).mono fun _e _w' ⟨he, hF, hK⟩ => ⟨_, he, h.same hF hK⟩
theorem dir_pf (h : PF w0 w g S A) (hI : Inv A n) (hn : n < 900) :
    Calls Tryz.prog 55 #[.pointer (some ⟨g, 0, none⟩)] w fun e w' => Done w0 w g S (dirA A).1 (.int .i64 (dirA A).2) e w' :=
  (syncDir_any g S A w h.fs (hI.Num (by omega))).mono fun _e _w' ⟨he, hF, hK⟩ => ⟨_, he, h.next hF hK⟩
theorem rename_pf (a b : ByteArray) (h : PF w0 w g S A) (hI : Inv A n) (hn : n < 900) (ha : a.size ≤ 9223372036854775807) (hb : b.size ≤ 9223372036854775807) :
    Calls Tryz.prog 57 #[.pointer (some ⟨g, 0, none⟩), .string a, .string b] w fun e w' => Done w0 w g S (renameA A a b).1 (.int .i64 (renameA A a b).2) e w' :=
  (rename_any g S A a b w h.fs (hI.Num (by omega)) (hI.few (by omega)) ha hb).mono fun _e _w' ⟨he, hF, hK⟩ => ⟨_, he, h.next hF hK⟩
theorem remove_pf (a : ByteArray) (h : PF w0 w g S A) (hI : Inv A n) (hn : n < 900) (ha : a.size ≤ 9223372036854775807) :
    Calls Tryz.prog 48 #[.pointer (some ⟨g, 0, none⟩), .string a] w fun e w' => Done w0 w g S (removeA A a).1 (.int .i64 (removeA A a).2) e w' :=
  (remove_any g S A a w h.fs (hI.Num (by omega)) (hI.few (by omega)) ha).mono fun _e _w' ⟨he, hF, hK⟩ => ⟨_, he, h.next hF hK⟩
theorem arm_pf (k : Int) (h : PF w0 w g S A) :
    Calls Tryz.prog 41 #[.pointer (some ⟨g, 0, none⟩), .int .i64 k] w fun e w' => Done w0 w g S (armA A k).1 (.int .i64 (armA A k).2) e w' :=
  (arm_any g S A k w h.fs).mono fun _e _w' ⟨he, hF, hB⟩ => ⟨_, he, h.same hF (Keep.of_but hB (by obtain ⟨_, _, _, _, _, _, hM⟩ := h.fs; exact hM.gS))⟩
theorem plan_pf (v : Value) (l : List Int) (h : PF w0 w g S A) (hv : Ints w v l) (hl : l.length ≤ 1000) :
    Calls Tryz.prog 40 #[.pointer (some ⟨g, 3, none⟩), v] w fun e w' => Done w0 w g S { A with plan := l } (.tuple #[]) e w' :=
  (plan_any g S A v l w h.fs hv hl).mono fun _e _w' ⟨he, hF, hK⟩ => ⟨_, he, h.next hF hK⟩
theorem crash_pf (dirs : Int) (v : Value) (tails : List Int) (h : PF w0 w g S A) (hI : Inv A n) (hn : n < 900) (hv : Ints w v tails) (htl : tails.length < 1000) :
    Calls Tryz.prog 42 #[.pointer (some ⟨g, 0, none⟩), .int .i64 dirs, v] w fun e w' => ∃ g' S' bs, e = .returned (.pointer (some ⟨g', 0, none⟩)) ∧ bs.length = (namesD (leftD A dirs)).length ∧ bs.Nodup ∧ PF w0 w' g' S' (crashA A dirs tails bs) ∧ (∀ k, S' k → w.heap.size ≤ k) ∧ Below w.heap.size w w' :=
  (crash_any g S A dirs v tails w h.fs (hI.crashy (by omega)) hv (by omega)).mono fun _e w' ⟨g', bs, he, hbl, hnd, _, hF, hB⟩ =>
    ⟨g', newB w w', bs, he, hbl, hnd, ⟨hF, fun _k hk => ⟨Nat.le_trans h.base.size hk.1, hk.2⟩, h.base.trans (hB.mono h.base.size)⟩, fun _k hk => hk.1, hB⟩
theorem new_pf (room : Int) (h1 : 1 ≤ room) (h2 : room ≤ 1048576) (hb : Below w0.heap.size w0 w) :
    Calls Tryz.prog 10 #[.int .i64 room] w fun e w' => ∃ g S, e = .returned (.tuple #[.pointer (some ⟨g, 0, none⟩), .int .i64 0]) ∧ PF w0 w' g S (newA room) ∧ Below w.heap.size w w' :=
  (new_any room h1 h2 w).mono fun _e w' ⟨g, he, _, hF, hB⟩ => ⟨g, newB w w', he, ⟨hF, fun _k hk => ⟨Nat.le_trans hb.size hk.1, hk.2⟩, hb.trans (hB.mono hb.size)⟩, hB⟩
end
end Go.Proofs.YtigbgajelkknbaaGreatDoor
