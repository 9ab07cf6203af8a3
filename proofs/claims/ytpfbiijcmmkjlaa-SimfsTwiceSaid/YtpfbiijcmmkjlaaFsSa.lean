/- Package simfs and the reference of layer 2: when they tell the same. Plain; nothing is walked. -/
import Derived.Test.YtpfbiijcmmkjlaaFsMa
import Derived.Test.YtpfbiijcmmkjlaaFsRo
namespace Go.Proofs.Ytpfbiijcmmkjlaa
open Go.RowKit Go.Maps Go.WideMaps

/-- A file as the reference has it. -/
def filR (f : Fil) : RN := (strOfNums f.data, (f.sure : Int))
/-- They tell the same. -/
structure Sim (A : FsA) (R : RSt) : Prop where
  room : R.room = A.room
  steps : R.steps = A.count
  left : R.left = if A.armed = true then A.left else -1
  plan : R.plan = A.plan
  planL : A.plan.length < 1000
  created : A.created = (R.files.length : Int)
  inj : ∀ b b' f f', A.file b = some f → A.file b' = some f' → f.num = f'.num → b = b'
  file : ∀ b f, A.file b = some f → 0 ≤ f.num ∧ R.files[f.num.toNat]? = some (filR f)
  row : ∀ x ∈ R.files, x.1.size ≤ 65536 ∧ 0 ≤ x.2 ∧ x.2 ≤ x.1.size
  chg : A.since.length = R.changes.length
  each : ∀ c ∈ R.changes, c.length ≤ 2
  dirs : ∀ i, Rep A.file R.files.length (preD A i) (preR R i)
  good : ∀ i, ∀ x ∈ preR R i, nameB x.1 = true
  dir : R.dir = preR R R.changes.length
theorem Sim.fl {A : FsA} {R : RSt} (h : Sim A R) : ∀ b f, A.file b = some f → 0 ≤ f.num := fun b f hb => (h.file b f hb).1
theorem Sim.numlt {A : FsA} {R : RSt} (h : Sim A R) {b : Nat} {f : Fil} (hb : A.file b = some f) : 0 ≤ f.num ∧ f.num < R.files.length := by
  obtain ⟨h1, h2⟩ := h.file b f hb
  have := (List.getElem?_eq_some_iff.1 h2).1
  omega
theorem Sim.now {A : FsA} {R : RSt} {n : Nat} (h : Sim A R) (hI : Inv A n) : Rep A.file R.files.length A.now R.dir := by
  rw [hI.now, h.dir, ← h.chg]; exact h.dirs _
theorem Sim.len {A : FsA} {R : RSt} {n : Nat} (h : Sim A R) (hI : Inv A n) (i : Nat) : (preR R i).length ≤ n := by
  rw [(h.dirs i).length h.fl (hI.tidy i) (hI.ok i)]; exact hI.size i
theorem Sim.dirlen {A : FsA} {R : RSt} {n : Nat} (h : Sim A R) (hI : Inv A n) : R.dir.length = Maps.size A.now := (h.now hI).length h.fl hI.tidyNow hI.okNow
theorem Sim.ok {A : FsA} {R : RSt} {n : Nat} (h : Sim A R) (hI : Inv A n) (hn : n < 1000) : ROk R := by
  have hs := h.len hI 0
  have hs' : R.sure.length ≤ n := hs
  refine ⟨by rw [h.dir]; have := h.len hI R.changes.length; omega, by omega, ?_, ?_, h.each, ?_, ?_, by rw [h.plan]; exact h.planL⟩
  · have := h.created; have := hI.cr; omega
  · have := h.chg; have := hI.since; omega
  · rw [h.steps]; have := hI.c; omega
  · rw [h.left]; have := hI.l; split <;> omega
theorem Sim.well {A : FsA} {R : RSt} {n : Nat} (h : Sim A R) (hI : Inv A n) : RWell R := ⟨(h.now hI).num, fun f hf => by have := (h.row f hf).1; omega⟩
theorem Sim.names {A : FsA} {R : RSt} {n : Nat} (h : Sim A R) (hI : Inv A n) : namesD A.now = R.dir.map nmL := (h.now hI).names h.fl hI.tidyNow hI.okNow
/-- A name's file. -/
theorem Sim.find {A : FsA} {R : RSt} {n : Nat} (h : Sim A R) (hI : Inv A n) (s : ByteArray) :
    (dget A.now s = none ∧ findR R.dir s = -1) ∨ ∃ b f, dget A.now s = some b ∧ A.file b = some f ∧ findR R.dir s = f.num ∧ 0 ≤ f.num ∧ f.num < R.files.length ∧ R.files[f.num.toNat]? = some (filR f) := by
  rcases (h.now hI).look s with h1 | ⟨b, f, h1, h2, h3⟩
  · exact .inl h1
  · exact .inr ⟨b, f, h1, h2, h3, (h.numlt h2).1, (h.numlt h2).2, (h.file b f h2).2⟩
theorem Sim.open_ {A : FsA} {R : RSt} {n : Nat} (h : Sim A R) (hI : Inv A n) (s : ByteArray) :
    (openR R s).2 = (findA A s).2 ∧ ((findA A s).2 = 0 → ∃ b f, findA A s = (some b, 0) ∧ dget A.now s = some b ∧ A.file b = some f ∧ (openR R s).1.toNat = f.num.toNat ∧ 0 ≤ f.num ∧ fileR R f.num.toNat = filR f ∧ f.num.toNat < R.files.length) := by
  unfold openR findA
  cases hb : nameB s with
  | false => exact ⟨by simp, fun e => by simp at e⟩
  | true =>
    rw [if_neg (by simp), if_pos rfl]
    rcases h.find hI s with ⟨h1, h2⟩ | ⟨b, f, h1, h2, h3, h4, h5, h6⟩
    · rw [h1, h2, if_pos (by omega)]
      exact ⟨rfl, fun e => by cases e⟩
    · rw [h1, h3, if_neg (by omega)]
      exact ⟨rfl, fun _ => ⟨b, f, rfl, rfl, h2, rfl, h4, by unfold fileR; rw [List.getD_eq_getElem?_getD, h6]; rfl, by omega⟩⟩
/-- A step. -/
theorem Sim.step {A : FsA} {R : RSt} (h : Sim A R) (hl0 : 0 ≤ A.left) : Sim (stepA A).1 (stepR R).1 ∧ (stepR R).2.2 = (stepA A).2.2 ∧ (2 < (stepR R).2.1 → (stepA A).2.1 = (stepR R).2.1) ∧ (¬ 2 < (stepR R).2.1 → (stepA A).2.1 ≤ 2) := by
  have hd : deadB A.armed A.left = true ↔ R.left = 0 := by
    rw [h.left]; unfold deadB
    cases A.armed <;> simp
  by_cases h0 : R.left = 0
  · have e1 : stepA A = (A, 0, 22) := by unfold stepA; rw [if_pos (hd.2 h0)]
    have e2 : stepR R = (R, 0, 22) := by unfold stepR; rw [if_pos h0]
    rw [e1, e2]
    exact ⟨h, rfl, fun h => by simp at h, fun _ => by simp⟩
  · have e1 : stepA A = ({ A with count := A.count + 1, left := if A.armed = true then A.left - 1 else A.left, plan := A.plan.tail }, howOf A.plan, faultOf (howOf A.plan)) := by
      unfold stepA; rw [if_neg (fun e => h0 (hd.1 e))]
    have e2 : stepR R = ({ R with steps := R.steps + 1, left := leftR R.left, plan := R.plan.tail }, howR R.plan, codeR (howR R.plan)) := by unfold stepR; rw [if_neg h0]
    rw [e1, e2]
    refine ⟨⟨h.room, by show R.steps + 1 = A.count + 1; rw [h.steps], ?_, by show R.plan.tail = A.plan.tail; rw [h.plan], by show A.plan.tail.length < 1000; have := h.planL; simp; omega, h.created, h.inj, h.file, h.row, h.chg, h.each, h.dirs, h.good, h.dir⟩, ?_, ?_, ?_⟩
    · show leftR R.left = if A.armed = true then (if A.armed = true then A.left - 1 else A.left) else -1
      have hl := h.left
      cases ha : A.armed with
      | false => rw [ha] at hl; simp at hl; rw [hl]; simp [leftR]
      | true =>
        rw [ha] at hl; simp at hl
        rw [hl] at h0 ⊢
        unfold leftR
        rw [if_pos (show A.left > 0 by omega)]
        simp
    · rw [h.plan]
      show codeR (A.plan.headD 0) = faultOf (howOf A.plan)
      unfold howOf codeR faultOf
      split <;> split <;> (try split) <;> (try split) <;> (try rfl) <;> omega
    · rw [h.plan]
      show 2 < A.plan.headD 0 → (if A.plan.headD 0 < 0 then 1 else A.plan.headD 0) = A.plan.headD 0
      intro h2; rw [if_neg (by omega)]
    · rw [h.plan]
      show ¬ 2 < A.plan.headD 0 → (if A.plan.headD 0 < 0 then 1 else A.plan.headD 0) ≤ 2
      intro h2; split <;> omega
theorem preR_turn (R : RSt) (l : List RN) (i : Nat) : preR (turnS R l) i = if i ≤ R.changes.length then preR R i else turnR (preR R R.changes.length) l := by
  unfold preR turnS
  simp only
  by_cases h : i ≤ R.changes.length
  · rw [if_pos h, List.take_append_of_le_length h]
  · rw [if_neg h, List.take_of_length_le (by simp; omega), List.foldl_append, List.take_of_length_le (Nat.le_refl _)]; rfl
theorem turnR_mem : ∀ (l : List RN) (d : List RN) (x : RN), x ∈ turnR d l → x ∈ d ∨ x ∈ l
  | [], d, x, h => .inl h
  | a :: l, d, x, h => by
    rcases turnR_mem l (withR d a) x h with h | h
    · rcases withGo_mem a d _ x h with h | ⟨rfl, _⟩
      · exact .inl h
      · exact .inr List.mem_cons_self
    · exact .inr (List.mem_cons_of_mem _ h)
/-- A change of the directory. -/
theorem Sim.change {A : FsA} {R : RSt} (h : Sim A R) (c : Chg) (l : List RN) (hl : l.length ≤ 2) (hg : ∀ x ∈ l, nameB x.1 = true) (hr : Rep A.file R.files.length (c.ap (preD A A.since.length)) (turnR R.dir l)) : Sim (changeA A c) (turnS R l) := by
  refine ⟨h.room, h.steps, h.left, h.plan, h.planL, h.created, h.inj, h.file, h.row, ?_, ?_, ?_, ?_, ?_⟩
  · show (A.since ++ [c]).length = (R.changes ++ [l]).length
    simp [h.chg]
  · intro x hx
    have hx' : x ∈ R.changes ++ [l] := hx
    rcases List.mem_append.1 hx' with hx' | hx'
    · exact h.each x hx'
    · rw [List.mem_singleton] at hx'; subst hx'; exact hl
  · intro i
    show Rep A.file R.files.length _ _
    rw [preD_change, preR_turn, h.chg]
    split
    · exact h.dirs i
    · rw [← h.dir, ← h.chg]; exact hr
  · intro i x hx
    rw [preR_turn] at hx
    split at hx
    · exact h.good i x hx
    · rcases turnR_mem l _ x hx with hx | hx
      · exact h.good _ x hx
      · exact hg x hx
  · show turnR R.dir l = preR (turnS R l) (R.changes ++ [l]).length
    rw [preR_turn, if_neg (by simp), h.dir]
/-- A new file. -/
theorem Sim.newFile {A : FsA} {R : RSt} (h : Sim A R) {b : Nat} (hb : A.file b = none) : Sim { A with file := fun k => if k = b then some ⟨A.created, [], 0⟩ else A.file k, created := A.created + 1 } { R with files := R.files ++ [(⟨#[]⟩, 0)] } := by
  have hmono : ∀ b' f, A.file b' = some f → ∃ f', (if b' = b then some ⟨A.created, [], 0⟩ else A.file b') = some f' ∧ f'.num = f.num := fun b' f hf => by
    have hne : b' ≠ b := fun e => by rw [e, hb] at hf; cases hf
    exact ⟨f, by rw [if_neg hne]; exact hf, rfl⟩
  refine ⟨h.room, h.steps, h.left, h.plan, h.planL, ?_, ?_, ?_, ?_, h.chg, h.each, fun i => ?_, h.good, h.dir⟩
  · show A.created + 1 = ((R.files ++ [_]).length : Nat)
    rw [h.created, List.length_append]; simp
  · intro b1 b2 f1 f2 h1 h2 he
    have h1' : (if b1 = b then some ⟨A.created, [], 0⟩ else A.file b1) = some f1 := h1
    have h2' : (if b2 = b then some ⟨A.created, [], 0⟩ else A.file b2) = some f2 := h2
    have hc := h.created
    split at h1' <;> split at h2'
    · rename_i e1 e2; rw [e1, e2]
    · cases h1'; have := (h.numlt h2').2; simp only at he; omega
    · cases h2'; have := (h.numlt h1').2; simp only at he; omega
    · exact h.inj _ _ _ _ h1' h2' he
  · intro b1 f1 h1
    have h1' : (if b1 = b then some ⟨A.created, [], 0⟩ else A.file b1) = some f1 := h1
    have hc := h.created
    split at h1'
    · cases h1'
      refine ⟨by show 0 ≤ A.created; omega, ?_⟩
      show (R.files ++ [((⟨#[]⟩, 0) : RN)])[A.created.toNat]? = _
      rw [show A.created.toNat = R.files.length by omega, List.getElem?_append_right (Nat.le_refl _), Nat.sub_self]; rfl
    · obtain ⟨g1, g2⟩ := h.file b1 f1 h1'
      refine ⟨g1, ?_⟩
      show (R.files ++ [((⟨#[]⟩, 0) : RN)])[f1.num.toNat]? = _
      rw [List.getElem?_append_left (List.getElem?_eq_some_iff.1 g2).1]; exact g2
  · intro x hx
    have hx' : x ∈ R.files ++ [((⟨#[]⟩, 0) : RN)] := hx
    rcases List.mem_append.1 hx' with hx' | hx'
    · exact h.row x hx'
    · rw [List.mem_singleton] at hx'; subst hx'; exact ⟨Nat.zero_le _, Int.le_refl _, Int.le_refl _⟩
  · exact (h.dirs i).mono hmono (by show _ ≤ (R.files ++ [_]).length; simp)
/-- A file with other bytes, or more of them sure. -/
theorem Sim.setFile {A : FsA} {R : RSt} (h : Sim A R) {b : Nat} {f f' : Fil} (hb : A.file b = some f) (hn : f'.num = f.num) (hl : f'.data.length ≤ 65536) (hs : f'.sure ≤ f'.data.length) : Sim (setF A b f') (setR R f.num.toNat (filR f')) := by
  have hnum := h.numlt hb
  have hmono : ∀ b' g, A.file b' = some g → ∃ g', (if b' = b then some f' else A.file b') = some g' ∧ g'.num = g.num := fun b' g hg => by
    by_cases e : b' = b
    · subst e; rw [hb] at hg; cases hg; exact ⟨f', by rw [if_pos rfl], hn⟩
    · exact ⟨g, by rw [if_neg e]; exact hg, rfl⟩
  have key : ∀ b1 f1, (if b1 = b then some f' else A.file b1) = some f1 → ∃ f0, A.file b1 = some f0 ∧ f0.num = f1.num ∧ (b1 = b → f1 = f') ∧ (b1 ≠ b → f0 = f1) := fun b1 f1 h1 => by
    split at h1
    · rename_i e; cases h1; exact ⟨f, by rw [e]; exact hb, hn.symm, fun _ => rfl, fun e2 => absurd e e2⟩
    · rename_i e; exact ⟨f1, h1, rfl, fun e2 => absurd e2 e, fun _ => rfl⟩
  refine ⟨h.room, h.steps, h.left, h.plan, h.planL, ?_, ?_, ?_, ?_, h.chg, h.each, fun i => ?_, h.good, h.dir⟩
  · show A.created = ((R.files.set _ _).length : Nat)
    rw [List.length_set]; exact h.created
  · intro b1 b2 f1 f2 h1 h2 he
    obtain ⟨g1, k1, k2, _⟩ := key b1 f1 h1
    obtain ⟨g2, k3, k4, _⟩ := key b2 f2 h2
    exact h.inj _ _ _ _ k1 k3 (by rw [k2, k4, he])
  · intro b1 f1 h1
    obtain ⟨g1, k1, k2, k3, k4⟩ := key b1 f1 h1
    obtain ⟨q1, q2⟩ := h.file b1 g1 k1
    refine ⟨by rw [← k2]; exact q1, ?_⟩
    show (R.files.set f.num.toNat (filR f'))[f1.num.toNat]? = _
    by_cases e : b1 = b
    · rw [k3 e, hn, List.getElem?_set_self (by omega)]
    · have hne : f.num.toNat ≠ f1.num.toNat := fun e2 => e (h.inj b1 b g1 f k1 hb (by rw [k2]; have := k2 ▸ q1; omega))
      rw [List.getElem?_set_ne hne, ← k4 e]; exact q2
  · intro x hx
    rcases List.mem_or_eq_of_mem_set hx with hx | rfl
    · exact h.row x hx
    · unfold filR; simp only [strOfNums_size]; omega
  · show Rep _ (R.files.set _ _).length _ _
    rw [List.length_set]
    exact (h.dirs i).mono hmono (Nat.le_refl _)
theorem uniq_key : ∀ (es : List (Lit × DataW Unit)), es.Pairwise (fun p q => p.1 ≠ q.1) → ∀ p q, p ∈ es → q ∈ es → p.1 = q.1 → p = q
  | [], _, _, _, h, _, _ => by cases h
  | a :: es, hp, p, q, h1, h2, h => by
    obtain ⟨g1, g2⟩ := List.pairwise_cons.1 hp
    rcases List.mem_cons.1 h1 with e1 | e1 <;> rcases List.mem_cons.1 h2 with e2 | e2
    · rw [e1, e2]
    · rw [e1] at h; exact absurd h (g1 q e2)
    · rw [e2] at h; exact absurd h.symm (g1 p e1)
    · exact uniq_key es g2 p q e1 e2 h
/-- The bytes that are used. -/
theorem Sim.used {A : FsA} {R : RSt} {n : Nat} (h : Sim A R) (hI : Inv A n) : usedA A = usedR R := by
  have hnm := h.names hI
  have hT := hI.tidyNow
  have hO := hI.okNow
  have hfind := fun s => h.find hI s
  unfold usedA usedR
  obtain ⟨es, hes, hp⟩ := hO
  rw [hes] at hnm hT hfind ⊢
  obtain ⟨es', he', hpw⟩ := hT
  cases he'
  -- by name
  have hg : ∀ p ∈ es, wt A.file p.2 = szR R (findR R.dir ⟨(strOf p.1).toArray⟩) := fun p hpm => by
    obtain ⟨s, b, f, h1, h2, h3, h4⟩ := hp p hpm
    have hk : (⟨(strOf p.1).toArray⟩ : ByteArray) = s := by rw [h1]; exact bytes_back s
    rw [hk]
    have hdg : dget (.map es) s = some b := by
      unfold dget DataW.atKey
      have hf : es.find? (fun q => q.1.sameKey (keyL s)) = some p := by
        have hps : p.1.sameKey (keyL s) = true := by rw [h1]; simp [keyL, Lit.sameKey]
        cases hff : es.find? (fun q => q.1.sameKey (keyL s)) with
        | none => exact absurd hps (by simpa using List.find?_eq_none.1 hff p hpm)
        | some q =>
          have hqm := List.mem_of_find?_eq_some hff
          have hqs := List.find?_some hff
          have hqk : q.1 = p.1 := (WideAt.sameKey_eq hqs).trans h1.symm
          rw [uniq_key es hpw q p hqm hpm hqk]
      simp [hf, h3]
    rcases hfind s with ⟨g1, _⟩ | ⟨b', f', g1, g2, g3, g4, g5, g6⟩
    · rw [hdg] at g1; cases g1
    · rw [hdg] at g1; cases g1
      rw [g2] at h4; cases h4
      rw [h3, g3]
      unfold wt szR
      rw [List.getD_eq_getElem?_getD, g6]
      simp [g2, filR, strOfNums_size]
  have e1 : tot A.file es (fun _ => true) = ((strKeys (.map es : DataW Unit)).map fun k => szR R (findR R.dir ⟨k.toArray⟩)).sum := by
    unfold tot strKeys
    rw [List.filter_eq_self.2 (fun _ _ => rfl), List.map_map]
    congr 1
    exact List.map_congr_left fun p hpm => hg p hpm
  show tot A.file es (fun _ => true) = _
  rw [e1]
  have hperm : (strKeys (.map es : DataW Unit)).Perm (R.dir.map nmL) := by rw [← hnm]; exact (List.mergeSort_perm _ _).symm
  rw [(hperm.map _).sum_nat, List.map_map]
  congr 1
  refine List.map_congr_left fun x hx => ?_
  show szR R (findR R.dir ⟨x.1.data.toList.toArray⟩) = _
  rw [bytes_back, findR_mem R.dir (h.now hI).rise hx]
end Go.Proofs.Ytpfbiijcmmkjlaa
