/- Package simfs what holds of every file system, call by call. Plain; nothing is walked. -/
import Derived.Test.YtpfbiijcmmkjlaaDoorFsY
namespace Go.Proofs.YtpfbiijcmmkjlaaDoor
open Go.RowKit Go.Maps Go.WideMaps
set_option maxRecDepth 100000

theorem appendA_err {A : FsA} {s : ByteArray} {p : List Int} (h0 : ¬ (findA A s).2 = 0) : appendA A s p = (A, (findA A s).2) := by
  unfold appendA
  generalize findA A s = q at h0
  obtain ⟨q1, q2⟩ := q
  simp only at h0
  split
  · rename_i heq; cases heq; exact absurd rfl h0
  · rename_i heq; cases heq; rfl
section
variable {A : FsA} {n : Nat}
theorem inv_create (h : Inv A n) (s : ByteArray) (b : Nat) : Inv (createA A s b).1 (n + 3) := by
  unfold createA
  split
  · rename_i hn
    split
    · exact h.mono (by omega)
    · split
      · exact h.mono (by omega)
      · split
        · have h1 := h.step
          have h2 := h1.setF (b := b) (f := ⟨(stepA A).1.created, [], 0⟩) (by simp) (Nat.zero_le _) ⟨h1.cr.1, h1.cr.2⟩
          have h3 := h2.change (c := .create s b) ⟨(nameB_size hn).2, ⟨(stepA A).1.created, [], 0⟩, by show (if b = b then _ else _) = _; rw [if_pos rfl]⟩
          exact h3.created
        · exact h.step.mono (by omega)
  · exact h.mono (by omega)
theorem inv_append (h : Inv A n) (s : ByteArray) (p : List Int) : Inv (appendA A s p).1 (n + 3) := by
  by_cases h0 : (findA A s).2 = 0
  · obtain ⟨b, f, e1, e2⟩ := findA_ok h0 h.named
    unfold appendA
    rw [e1]
    simp only [e2]
    unfold putA
    have h1 := h.step
    have hnum := h.num b f e2
    have hsh := h.short b f e2
    split
    · exact h.mono (by omega)
    · rename_i hbig
      split
      · split
        · exact h1.mono (by omega)
        · exact (h1.setF (b := b) (f := { f with data := f.data ++ p }) (by rw [List.length_append]; omega) (by show f.sure ≤ (f.data ++ p).length; rw [List.length_append]; omega) ⟨hnum.1, by show f.num ≤ ((n + 1 : Nat) : Int); omega⟩).mono (by omega)
      · refine (h1.setF (b := b) (f := { f with data := f.data ++ p.take _ }) ?_ ?_ ⟨hnum.1, by show f.num ≤ ((n + 1 : Nat) : Int); omega⟩).mono (by omega)
        · rw [List.length_append, List.length_take]; omega
        · show f.sure ≤ (f.data ++ p.take _).length; rw [List.length_append]; omega
  · rw [appendA_err h0]; exact h.mono (by omega)
theorem inv_sync (h : Inv A n) (s : ByteArray) : Inv (syncA A s).1 (n + 3) := by
  unfold syncA
  by_cases h0 : (findA A s).2 = 0
  · obtain ⟨b, f, e1, e2⟩ := findA_ok h0 h.named
    rw [if_pos h0]
    unfold doneA
    split
    · have hfb : (stepA A).1.file b = some f := by rw [(stepA_same A).2.2.2.1]; exact e2
      have hnum := h.num b f e2
      have hsh := h.short b f e2
      have e9 : ({ (stepA A).1 with file := fun k => if some k = (findA A s).1 then ((stepA A).1.file k).map (fun f => { f with sure := f.data.length }) else (stepA A).1.file k } : FsA) = setF (stepA A).1 b { f with sure := f.data.length } := by
        unfold setF
        simp only [e1]
        congr 1
        funext k
        by_cases hk : k = b
        · subst hk; simp [hfb]
        · rw [if_neg (fun e => hk (Option.some.inj e)), if_neg hk]
      show Inv ({ (stepA A).1 with file := fun k => if some k = (findA A s).1 then ((stepA A).1.file k).map (fun f => { f with sure := f.data.length }) else (stepA A).1.file k } : FsA) _
      rw [e9]
      exact (h.step.setF (b := b) (f := { f with sure := f.data.length }) hsh.1 (Nat.le_refl _) ⟨hnum.1, by show f.num ≤ ((n + 1 : Nat) : Int); omega⟩).mono (by omega)
    · exact h.step.mono (by omega)
  · rw [if_neg h0]; exact h.mono (by omega)
theorem inv_dir (h : Inv A n) : Inv (dirA A).1 (n + 3) := by
  unfold dirA doneA
  split
  · exact h.step.dir.mono (by omega)
  · exact h.step.mono (by omega)
theorem inv_remove (h : Inv A n) (s : ByteArray) : Inv (removeA A s).1 (n + 3) := by
  unfold removeA doneA
  split
  · split
    · exact (h.step.change (c := .remove s) trivial).mono (by omega)
    · exact h.step.mono (by omega)
  · exact h.mono (by omega)
theorem inv_rename (h : Inv A n) (a b : ByteArray) : Inv (renameA A a b).1 (n + 3) := by
  unfold renameA doneA
  split
  · rename_i hn
    split
    · exact h.mono (by omega)
    · rename_i hd
      split
      · refine (h.step.change (c := .rename a b) ⟨(nameB_size hn.2).2, ?_⟩).mono (by omega)
        rw [(stepA_same A).1]
        cases e : dget A.now a with
        | none => exact absurd e hd
        | some x => exact ⟨x, rfl⟩
      · exact h.step.mono (by omega)
  · exact h.mono (by omega)
theorem inv_arm (h : Inv A n) (k : Int) (hk : k ≤ 9223372036854775807) : Inv (armA A k).1 (n + 3) := by
  unfold armA
  split
  · exact h.mono (by omega)
  · split
    · exact h.mono (by omega)
    · have hm := h.mono (show n ≤ n + 3 by omega)
      exact ⟨hm.c, ⟨by show 0 ≤ k; omega, hk⟩, hm.p, hm.po, hm.room, hm.cr, hm.since, hm.now, hm.size, hm.tidy, hm.ok, hm.short, hm.num⟩
theorem inv_plan (h : Inv A n) (l : List Int) (hl : l.length < 1000) (hp : ∀ k ∈ l, k ≤ 9223372036854775807) : Inv { A with plan := l } (n + 3) := by
  have hm := h.mono (show n ≤ n + 3 by omega)
  exact ⟨hm.c, hm.l, by show l.length < _; omega, hp, hm.room, hm.cr, hm.since, hm.now, hm.size, hm.tidy, hm.ok, hm.short, hm.num⟩
end
end Go.Proofs.YtpfbiijcmmkjlaaDoor
