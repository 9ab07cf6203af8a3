/- Package simfs and the reference of layer 2: each call keeps them telling the same, and answers the same. Plain; nothing is walked. -/
import Derived.Test.YtpfbiijcmmkjlaaFsSa
import Derived.Test.YtpfbiijcmmkjlaaFsPl
namespace Go.Proofs.Ytpfbiijcmmkjlaa
open Go.RowKit Go.Maps Go.WideMaps

section
variable {A : FsA} {R : RSt} {n : Nat}
theorem sim_create (h : Sim A R) (hI : Inv A n) (s : ByteArray) {b : Nat} (hb : A.file b = none) : Sim (createA A s b).1 (createR R s).1 ∧ (createR R s).2 = (createA A s b).2 := by
  obtain ⟨k1, k2, -, -⟩ := h.step hI.l.1
  have hdl := h.dirlen hI
  have hf := h.find hI s
  unfold createA createR
  by_cases hn : nameB s = true
  · rw [if_pos hn, if_pos hn]
    rcases hf with ⟨h1, h2⟩ | ⟨c, f, h1, h2, h3, h4, _, _⟩
    · rw [h1, h2, if_neg (show ¬ (none : Option Nat).isSome = true by simp), if_neg (show ¬ (0 : Int) ≤ -1 by decide), hdl]
      by_cases h64 : 64 ≤ Maps.size A.now
      · rw [if_pos h64, if_pos h64]; exact ⟨h, rfl⟩
      · rw [if_neg h64, if_neg h64, k2]
        by_cases h0 : (stepA A).2.2 = 0
        · rw [if_pos h0, if_pos h0]
          refine ⟨?_, rfl⟩
          have hfile : (stepA A).1.file b = none := by rw [(stepA_same A).2.2.2.1]; exact hb
          have hnew := k1.newFile hfile
          have hst := stepA_same A
          refine hnew.change (.create s b) [(s, ((stepR R).1.files.length : Nat))] (by simp) (fun x hx => by rw [List.mem_singleton] at hx; subst hx; exact hn) ?_
          have hcr := k1.created
          have hnow : Rep ({ (stepA A).1 with file := fun k => if k = b then some ⟨(stepA A).1.created, [], 0⟩ else (stepA A).1.file k, created := (stepA A).1.created + 1 } : FsA).file ((stepR R).1.files ++ [((⟨#[]⟩, 0) : RN)]).length (preD (stepA A).1 (stepA A).1.since.length) (stepR R).1.dir := by
            have h9 := hnew.dirs (stepA A).1.since.length
            have h10 := k1.dir
            rw [k1.chg] at h9 ⊢
            rw [h10]; exact h9
          have hp := hnow.put (by have := (Inv.step hI).tidy (stepA A).1.since.length; exact this.isMap) (s := s) (b := b) (f := ⟨(stepA A).1.created, [], 0⟩) (if_pos rfl) ⟨by show 0 ≤ (stepA A).1.created; omega, by show (stepA A).1.created < ((_ : Nat) : Int); rw [List.length_append, hcr]; simp; omega⟩
          show Rep _ _ _ (withR _ (s, ((stepR R).1.files.length : Int)))
          rw [← hcr]
          exact hp
        · rw [if_neg h0, if_neg h0]; exact ⟨k1, rfl⟩
    · rw [h1, h3, if_pos (show (some c).isSome = true by simp), if_pos h4]; exact ⟨h, rfl⟩
  · rw [if_neg hn, if_neg hn]; exact ⟨h, rfl⟩
theorem sim_sync (h : Sim A R) (hI : Inv A n) (s : ByteArray) : Sim (syncA A s).1 (syncR R s).1 ∧ (syncR R s).2 = (syncA A s).2 := by
  obtain ⟨k1, k2, -, -⟩ := h.step hI.l.1
  obtain ⟨o1, o2⟩ := h.open_ hI s
  unfold syncA syncR
  rw [o1]
  by_cases h0 : (findA A s).2 = 0
  · obtain ⟨b, f, e1, e2, e3, e4, e5, e6, e7⟩ := o2 h0
    rw [if_pos h0, if_pos h0, k2]
    unfold doneA
    by_cases hc : (stepA A).2.2 = 0
    · rw [if_pos hc, if_pos hc]
      refine ⟨?_, rfl⟩
      have hfb : (stepA A).1.file b = some f := by rw [(stepA_same A).2.2.2.1]; exact e3
      have hfr : fileR (stepR R).1 (openR R s).1.toNat = filR f := by rw [e4]; unfold fileR; rw [(stepR_same R).1]; exact e6
      have hsh := hI.short b f e3
      have hset := k1.setFile (f' := { f with sure := f.data.length }) hfb rfl hsh.1 (Nat.le_refl _)
      have e9 : ({ (stepA A).1 with file := fun k => if some k = (findA A s).1 then ((stepA A).1.file k).map (fun f => { f with sure := f.data.length }) else (stepA A).1.file k } : FsA) = setF (stepA A).1 b { f with sure := f.data.length } := by
        unfold setF
        simp only [e1]
        congr 1
        funext k
        by_cases hk : k = b
        · subst hk; simp [hfb]
        · rw [if_neg (fun e => hk (Option.some.inj e)), if_neg hk]
      show Sim ({ (stepA A).1 with file := fun k => if some k = (findA A s).1 then ((stepA A).1.file k).map (fun f => { f with sure := f.data.length }) else (stepA A).1.file k } : FsA) _
      rw [e9, hfr, e4]
      have e10 : filR { f with sure := f.data.length } = ((filR f).1, ((filR f).1.size : Int)) := by unfold filR; simp [strOfNums_size]
      rw [e10] at hset
      exact hset
    · rw [if_neg hc, if_neg hc]; exact ⟨k1, rfl⟩
  · rw [if_neg h0, if_neg h0]; exact ⟨h, rfl⟩
theorem sim_dir (h : Sim A R) (hI : Inv A n) : Sim (dirA A).1 (syncDirR R).1 ∧ (syncDirR R).2 = (dirA A).2 := by
  obtain ⟨k1, k2, -, -⟩ := h.step hI.l.1
  unfold dirA syncDirR doneA
  rw [k2]
  by_cases hc : (stepA A).2.2 = 0
  · rw [if_pos hc, if_pos hc]
    have hnow := k1.now hI.step
    refine ⟨⟨k1.room, k1.steps, k1.left, k1.plan, k1.planL, k1.created, k1.inj, k1.file, k1.row, rfl, fun c hc => (by cases hc), fun i => ?_, fun i x hx => ?_, rfl⟩, rfl⟩
    all_goals
      have e1 : preD { (stepA A).1 with sure := (stepA A).1.now, since := [] } i = (stepA A).1.now := by unfold preD; simp
      have e2 : preR { (stepR R).1 with sure := (stepR R).1.dir, changes := [] } i = (stepR R).1.dir := by unfold preR; simp
    · rw [e1, e2]; exact hnow
    · rw [e2, k1.dir] at hx; exact k1.good _ x hx
  · rw [if_neg hc, if_neg hc]; exact ⟨k1, rfl⟩
theorem findA_good {A : FsA} {s : ByteArray} (h0 : (findA A s).2 = 0) : nameB s = true := by
  unfold findA at h0
  split at h0
  · assumption
  · cases h0
theorem sim_remove (h : Sim A R) (hI : Inv A n) (s : ByteArray) : Sim (removeA A s).1 (removeR R s).1 ∧ (removeR R s).2 = (removeA A s).2 := by
  obtain ⟨k1, k2, -, -⟩ := h.step hI.l.1
  obtain ⟨o1, -⟩ := h.open_ hI s
  unfold removeA removeR doneA
  rw [o1]
  by_cases h0 : (findA A s).2 = 0
  · rw [if_pos h0, if_pos h0, k2]
    by_cases hc : (stepA A).2.2 = 0
    · rw [if_pos hc, if_pos hc]
      refine ⟨k1.change (.remove s) [(s, -1)] (by simp) (fun x hx => by rw [List.mem_singleton] at hx; subst hx; exact findA_good h0) ?_, rfl⟩
      have hnow := k1.now hI.step
      have hI1 := hI.step
      rw [hI1.now] at hnow
      exact hnow.del s
    · rw [if_neg hc, if_neg hc]; exact ⟨k1, rfl⟩
  · rw [if_neg h0, if_neg h0]; exact ⟨h, rfl⟩
theorem sim_rename (h : Sim A R) (hI : Inv A n) (a b : ByteArray) : Sim (renameA A a b).1 (renameR R a b).1 ∧ (renameR R a b).2 = (renameA A a b).2 := by
  obtain ⟨k1, k2, -, -⟩ := h.step hI.l.1
  unfold renameA renameR doneA
  by_cases hn : nameB a = true ∧ nameB b = true
  · rw [if_pos hn, if_pos hn]
    rcases h.find hI a with ⟨h1, h2⟩ | ⟨c, f, h1, h2, h3, h4, h5, _⟩
    · rw [h1, h2, if_pos (show (none : Option Nat) = none from rfl), if_pos (show (-1 : Int) < 0 by decide)]; exact ⟨h, rfl⟩
    · rw [h1, h3, if_neg (show ¬ (some c = none) by simp), if_neg (show ¬ f.num < 0 by omega), k2]
      by_cases hc : (stepA A).2.2 = 0
      · rw [if_pos hc, if_pos hc]
        refine ⟨k1.change (.rename a b) [(a, -1), (b, f.num)] (by simp) (fun x hx => by
          rcases List.mem_cons.1 hx with rfl | hx
          · exact hn.1
          · rw [List.mem_singleton] at hx; subst hx; exact hn.2) ?_, rfl⟩
        have hI1 := hI.step
        have hnow := k1.now hI1
        have hT := hI1.tidyNow
        have hst := stepA_same A
        have hdg : dget (stepA A).1.now a = some c := by rw [hst.1]; exact h1
        rw [hI1.now] at hnow hT hdg
        have hd := hnow.del a
        have hfl : (stepA A).1.file c = some f := by rw [hst.2.2.2.1]; exact h2
        have hp := hd.put ((hT.del _).isMap) (s := b) hfl ⟨h4, by rw [(stepR_same R).1]; exact h5⟩
        show Rep _ _ (((preD (stepA A).1 (stepA A).1.since.length).del (keyL a)).put (keyL b) (datOf (dget (preD (stepA A).1 (stepA A).1.since.length) a))) _
        rw [hdg]
        exact hp
      · rw [if_neg hc, if_neg hc]; exact ⟨k1, rfl⟩
  · rw [if_neg hn, if_neg hn]; exact ⟨h, rfl⟩
theorem sim_arm (h : Sim A R) (k : Int) : Sim (armA A k).1 (armR R k).1 ∧ (armR R k).2 = (armA A k).2 := by
  have hd : deadB A.armed A.left = true ↔ R.left = 0 := by
    rw [h.left]; unfold deadB
    cases A.armed <;> simp
  unfold armA armR
  by_cases hk : k < 0
  · rw [if_pos hk, if_pos hk]; exact ⟨h, rfl⟩
  · rw [if_neg hk, if_neg hk]
    by_cases h0 : R.left = 0
    · rw [if_pos h0, if_pos (hd.2 h0)]; exact ⟨h, rfl⟩
    · rw [if_neg h0, if_neg (fun e => h0 (hd.1 e))]
      exact ⟨⟨h.room, h.steps, rfl, h.plan, h.planL, h.created, h.inj, h.file, h.row, h.chg, h.each, h.dirs, h.good, h.dir⟩, rfl⟩
theorem sim_plan (h : Sim A R) (l : List Int) (hl : l.length < 1000) : Sim { A with plan := l } { R with plan := l } :=
  ⟨h.room, h.steps, h.left, rfl, hl, h.created, h.inj, h.file, h.row, h.chg, h.each, h.dirs, h.good, h.dir⟩
theorem str_append (p q : List Int) : strOfNums p ++ strOfNums q = strOfNums (p ++ q) := by apply ByteArray.ext; simp [strOfNums]
theorem str_cut0 (p : List Int) (k : Nat) : (strOfNums p).extract 0 k = strOfNums (p.take k) := by apply ByteArray.ext; simp [strOfNums]
theorem appendA_err {A : FsA} {s : ByteArray} {p : List Int} (h0 : ¬ (findA A s).2 = 0) : appendA A s p = (A, (findA A s).2) := by
  unfold appendA
  generalize findA A s = q at h0
  obtain ⟨q1, q2⟩ := q
  simp only at h0
  split
  · rename_i heq; cases heq; exact absurd rfl h0
  · rename_i heq; cases heq; rfl
theorem sim_append (h : Sim A R) (hI : Inv A n) (s : ByteArray) (p : List Int) : Sim (appendA A s p).1 (appendR R s (strOfNums p)).1 ∧ (appendR R s (strOfNums p)).2 = (appendA A s p).2 := by
  obtain ⟨k1, k2, k3, k4⟩ := h.step hI.l.1
  obtain ⟨o1, o2⟩ := h.open_ hI s
  have hus := h.used hI
  unfold appendR
  rw [o1]
  by_cases h0 : (findA A s).2 = 0
  · unfold appendA
    obtain ⟨b, f, e1, e2, e3, e4, e5, e6, e7⟩ := o2 h0
    rw [e1]
    simp only [e3, if_true]
    unfold putA
    rw [e4, e6, k2]
    have hsz : (filR f).1.size + (strOfNums p).size = f.data.length + p.length := by unfold filR; rw [strOfNums_size, strOfNums_size]
    rw [hsz]
    by_cases hbig : 65536 < f.data.length + p.length
    · rw [if_pos hbig, if_pos hbig]; exact ⟨h, rfl⟩
    · rw [if_neg hbig, if_neg hbig]
      have hroom : (stepR R).1.room - (usedR (stepR R).1 : Int) = A.room - (usedA A : Int) := by
        have hst := stepR_same R
        have : usedR (stepR R).1 = usedR R := by unfold usedR szR; rw [hst.2.1, hst.1]
        rw [this, hst.2.2.2.2, h.room, hus]
      rw [hroom, strOfNums_size]
      have hfb : (stepA A).1.file b = some f := by rw [(stepA_same A).2.2.2.1]; exact e3
      have hsh := hI.short b f e3
      have hset : ∀ q : List Int, q.length ≤ p.length → Sim (withData (stepA A).1 b f q) (setR (stepR R).1 f.num.toNat ((filR f).1 ++ strOfNums q, (filR f).2)) := fun q hq => by
        have := k1.setFile (f' := { f with data := f.data ++ q }) hfb rfl (by rw [List.length_append]; omega) (by show f.sure ≤ (f.data ++ q).length; rw [List.length_append]; omega)
        have e10 : filR { f with data := f.data ++ q } = ((filR f).1 ++ strOfNums q, (filR f).2) := by unfold filR; rw [str_append]
        rw [e10] at this
        exact this
      by_cases hc : (stepA A).2.2 = 0
      · rw [if_pos hc]
        by_cases hr : A.room - (usedA A : Int) < p.length
        · rw [if_pos hr, if_pos ⟨hc, hr⟩]; exact ⟨k1, rfl⟩
        · rw [if_neg hr, if_neg (fun e => hr e.2)]
          refine ⟨?_, hc⟩
          have hp0 : putR (stepR R).2.1 (stepA A).2.2 p.length (A.room - (usedA A : Int)) = (p.length : Int) := if_pos hc
          rw [hp0, Int.toNat_natCast, str_cut0, List.take_of_length_le (Nat.le_refl _)]
          exact hset p (Nat.le_refl _)
      · rw [if_neg hc, if_neg (fun e => hc e.1)]
        refine ⟨?_, rfl⟩
        have hp0 : (putR (stepR R).2.1 (stepA A).2.2 p.length (A.room - (usedA A : Int))).toNat = (partOf (stepA A).2.1 p.length (A.room - (usedA A : Int))).toNat := by
          unfold putR partOf
          rw [if_neg hc]
          by_cases h2 : 2 < (stepR R).2.1
          · rw [k3 h2]
            have hcode : (stepA A).2.2 = 20 := by
              rw [← k2]
              unfold stepR at h2 k2 ⊢
              split at h2
              · simp at h2
              · rename_i hl
                rw [if_neg hl]
                show codeR (howR R.plan) = 20
                have h2' : 2 < howR R.plan := h2
                unfold codeR
                rw [if_neg (by omega), if_neg (by omega)]
            rw [if_pos ⟨hcode, h2⟩]
          · have := k4 h2
            rw [if_neg (fun e => h2 e.2)]
            omega
        rw [hp0, str_cut0]
        exact hset _ (by rw [List.length_take]; omega)
  · rw [if_neg h0, appendA_err h0]; exact ⟨h, rfl⟩
end
end Go.Proofs.Ytpfbiijcmmkjlaa
