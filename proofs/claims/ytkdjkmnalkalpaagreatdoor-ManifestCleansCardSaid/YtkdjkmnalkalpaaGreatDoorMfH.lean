/- Package manifest: a first Save goes well; Saves of a file system that never fails. Plain; nothing of the program. -/
import Derived.Test.YtkdjkmnalkalpaaGreatDoorMfW
namespace Go.Proofs.YtkdjkmnalkalpaaGreatDoor
open Go.RowKit Go.Maps Go.WideMaps
set_option maxRecDepth 100000

theorem calm_create {A : FsA} (h : Calm A) (s : ByteArray) (b : Nat) : Calm (createA A s b).1 ∧ (createA A s b).1.room = A.room := by
  unfold createA
  rw [stepA_calm h]
  split
  · split
    · exact ⟨h, rfl⟩
    · split
      · exact ⟨h, rfl⟩
      · split
        · exact ⟨⟨h.a, h.p⟩, rfl⟩
        · exact ⟨⟨h.a, h.p⟩, rfl⟩
  · exact ⟨h, rfl⟩
theorem calm_append {A : FsA} (h : Calm A) (s : ByteArray) (p : List Int) : Calm (appendA A s p).1 ∧ (appendA A s p).1.room = A.room := by
  unfold appendA
  split
  · split
    · unfold putA
      rw [stepA_calm h]
      split
      · exact ⟨h, rfl⟩
      · split
        · split
          · exact ⟨⟨h.a, h.p⟩, rfl⟩
          · exact ⟨⟨h.a, h.p⟩, rfl⟩
        · exact ⟨⟨h.a, h.p⟩, rfl⟩
    · exact ⟨h, rfl⟩
  · exact ⟨h, rfl⟩
theorem calm_remove {A : FsA} (h : Calm A) (s : ByteArray) : Calm (removeA A s).1 ∧ (removeA A s).1.room = A.room := by
  unfold removeA
  split
  · unfold doneA
    rw [stepA_calm h]
    split
    · exact ⟨⟨h.a, h.p⟩, rfl⟩
    · exact ⟨⟨h.a, h.p⟩, rfl⟩
  · exact ⟨h, rfl⟩
theorem calm_rm {A : FsA} (h : Calm A) (s : ByteArray) : Calm (rmA A s).1 ∧ (rmA A s).1.room = A.room := by
  unfold rmA
  split
  · exact calm_remove h s
  · exact calm_remove h s
theorem calm_sync {A : FsA} (h : Calm A) (s : ByteArray) : Calm (syncA A s).1 ∧ (syncA A s).1.room = A.room := by
  unfold syncA
  split
  · unfold doneA
    rw [stepA_calm h]
    split
    · exact ⟨⟨h.a, h.p⟩, rfl⟩
    · exact ⟨⟨h.a, h.p⟩, rfl⟩
  · exact ⟨h, rfl⟩
theorem calm_rename {A : FsA} (h : Calm A) (s t : ByteArray) : Calm (renameA A s t).1 ∧ (renameA A s t).1.room = A.room := by
  unfold renameA
  split
  · split
    · exact ⟨h, rfl⟩
    · unfold doneA
      rw [stepA_calm h]
      split
      · exact ⟨⟨h.a, h.p⟩, rfl⟩
      · exact ⟨⟨h.a, h.p⟩, rfl⟩
  · exact ⟨h, rfl⟩
theorem calm_dir {A : FsA} (h : Calm A) : Calm (dirA A).1 ∧ (dirA A).1.room = A.room := by
  unfold dirA doneA
  rw [stepA_calm h]
  split
  · exact ⟨⟨h.a, h.p⟩, rfl⟩
  · exact ⟨⟨h.a, h.p⟩, rfl⟩
theorem calm_save {B : List Int} {i : Nat} {A A' : FsA} {c : Int} (h : Calm A) (hs : SaveStep B i A A' c) : Calm A' ∧ A'.room = A.room := by
  match i, hs with
  | 0, hs => rw [show A' = (rmA A nTmp).1 from congrArg Prod.fst hs]; exact calm_rm h _
  | 1, ⟨b, _, hs⟩ => rw [show A' = _ from congrArg Prod.fst hs]; exact calm_create h _ _
  | 2, hs => rw [show A' = _ from congrArg Prod.fst hs]; exact calm_append h _ _
  | 3, hs => rw [show A' = _ from congrArg Prod.fst hs]; exact calm_sync h _
  | 4, hs => rw [show A' = _ from congrArg Prod.fst hs]; exact calm_rename h _ _
  | 5, hs => rw [show A' = _ from congrArg Prod.fst hs]; exact calm_dir h
theorem calm_runs {B : List Int} {i : Nat} {A A' : FsA} {c : Int} (h : Calm A) (hr : Runs B i A A' c) : Calm A' ∧ A'.room = A.room := by
  induction hr with
  | done => exact ⟨h, rfl⟩
  | fail hs _ => exact calm_save h hs
  | next hs _ ih =>
    obtain ⟨h1, h2⟩ := calm_save h hs
    obtain ⟨h3, h4⟩ := ih h1
    exact ⟨h3, h4.trans h2⟩
theorem calm_rename_ok {A : FsA} (h : Calm A) {x : Nat} (hd : dget A.now nTmp = some x) : (renameA A nTmp nMan).2 = 0 := by rw [rename_calm h nameTmp nameMan hd]
theorem calm_dir_ok {A : FsA} (h : Calm A) : (dirA A).2 = 0 := by rw [dir_calm h]
theorem runs_new {room : Int} {B : List Int} {A' : FsA} {c : Int} (hB : B.length ≤ 1000) (hr : 1000 ≤ room) (h : Runs B 0 (newA room) A' c) : c = 0 := by
  have hc0 : Calm (newA room) := ⟨rfl, rfl⟩
  have h0 : rmA (newA room) nTmp = (newA room, 0) := by
    have e : removeA (newA room) nTmp = (newA room, 3) := by
      unfold removeA
      rw [findA_none nameTmp rfl]
      rfl
    unfold rmA
    rw [e]
    rfl
  cases h with
  | fail hs hc => exact absurd (congrArg Prod.snd ((show _ = rmA _ nTmp from hs).trans h0)) hc
  | next hs h =>
    cases (show _ = rmA _ nTmp from hs).trans h0
    have e1 : ∀ b, (createA (newA room) nTmp b).2 = 0 := fun b => by rw [create_calm hc0 nameTmp rfl (show Maps.size (.map [] : DataW Unit) < 64 by decide) b]
    cases h with
    | fail hs hc =>
      obtain ⟨b, _, hs⟩ := hs
      exact absurd ((congrArg Prod.snd hs).trans (e1 b)) hc
    | @next _ _ A2 _ _ hs h =>
      obtain ⟨hc2, hr2⟩ := calm_save hc0 hs
      obtain ⟨b, _, hs⟩ := hs
      rcases create_eff nameTmp hs with ⟨hx, _⟩ | ⟨_, _, hch, k, hf⟩
      · exact absurd rfl hx
      have hnow : A2.now = oneD nTmp b := hch.now
      have hf2 : A2.file b = some ⟨k, [], 0⟩ := by rw [hf]; simp
      have hd2 : dget A2.now nTmp = some b := by rw [hnow]; exact one_get _ _
      have hu : usedA A2 = 0 := by
        unfold usedA
        rw [hnow]
        unfold oneD usedD tot wt
        simp [hf2]
      have e2 : (appendA A2 nTmp B).2 = 0 := by rw [append_calm hc2 nameTmp hd2 hf2 (by simp; omega) (by rw [hu, hr2]; show ((0 : Nat) : Int) + _ ≤ room; omega)]
      cases h with
      | fail hs hc => exact absurd ((congrArg Prod.snd (show _ = appendA A2 nTmp B from hs)).trans e2) hc
      | @next _ _ A3 _ _ hs h =>
        obtain ⟨hc3, _⟩ := calm_save hc2 hs
        obtain ⟨g1, _, _, d, g4, _⟩ := append_eff nameTmp hd2 hf2 hs
        have hd3 : dget A3.now nTmp = some b := by rw [g1]; exact hd2
        have hf3 : A3.file b = some ⟨k, d, 0⟩ := by rw [g4]; simp
        have e3 : (syncA A3 nTmp).2 = 0 := by rw [sync_calm hc3 nameTmp hd3 hf3]
        cases h with
        | fail hs hc => exact absurd ((congrArg Prod.snd (show _ = syncA A3 nTmp from hs)).trans e3) hc
        | @next _ _ A4 _ _ hs h =>
          obtain ⟨hc4, _⟩ := calm_save hc3 hs
          rcases sync_eff nameTmp hd3 hf3 hs with ⟨hx, _⟩ | ⟨_, k1, _, _, _⟩
          · exact absurd rfl hx
          have hd4 : dget A4.now nTmp = some b := by rw [k1]; exact hd3
          cases h with
          | fail hs hc => exact absurd ((congrArg Prod.snd (show _ = renameA A4 nTmp nMan from hs)).trans (calm_rename_ok hc4 hd4)) hc
          | @next _ _ A5 _ _ hs h =>
            obtain ⟨hc5, _⟩ := calm_save hc4 hs
            cases h with
            | fail hs hc => exact absurd ((congrArg Prod.snd (show _ = dirA A5 from hs)).trans (calm_dir_ok hc5)) hc
            | next hs h =>
              cases h with
              | done => rfl
              | fail hs _ => exact hs.elim
              | next hs _ => exact hs.elim
def NowM (A : FsA) : Option (List Int) → Prop
  | none => dget A.now nMan = none
  | some B => ∃ b f, dget A.now nMan = some b ∧ A.file b = some f ∧ f.data = B ∧ ∀ s, s ≠ nMan → dget A.now s ≠ some b
theorem NowM.read {A : FsA} {m : Option (List Int)} (h : NowM A m) : readA A nMan = (m.getD [], if m.isSome then 0 else 3) := by
  cases m with
  | none => exact readA_none nameMan h
  | some B =>
    obtain ⟨b, f, h1, h2, h3, _⟩ := h
    rw [readA_some nameMan h1 h2, h3]
    rfl
theorem NowM.same {A A' : FsA} {m : Option (List Int)} (h : NowM A m) (hs : SameD A A') : NowM A' m := by
  cases m with
  | none => show dget A'.now nMan = none; rw [hs.now]; exact h
  | some B =>
    obtain ⟨b, f, h1, h2, h3, h4⟩ := h
    exact ⟨b, f, by rw [hs.now]; exact h1, by rw [hs.file]; exact h2, h3, fun s hn => by rw [hs.now]; exact h4 s hn⟩
theorem NowM.put {A A' : FsA} {m : Option (List Int)} {s : ByteArray} {b : Nat} (h : NowM A m) (hI : Maps.IsMap A.now) (hs : s ≠ nMan) (hb : A.file b = none) (hn : A'.now = (Chg.create s b).ap A.now) (hf : ∀ x, x ≠ b → A'.file x = A.file x) : NowM A' m := by
  have hget : ∀ t, t ≠ s → dget A'.now t = dget A.now t := fun t ht => by rw [hn]; exact dget_put_other ht _
  have hself : dget A'.now s = some b := by rw [hn]; exact dget_put_same hI s b
  cases m with
  | none => show dget A'.now nMan = none; rw [hget _ (Ne.symm hs)]; exact h
  | some B =>
    obtain ⟨b', f, h1, h2, h3, h4⟩ := h
    have hne : b' ≠ b := fun e => by rw [e, hb] at h2; cases h2
    refine ⟨b', f, by rw [hget _ (Ne.symm hs)]; exact h1, by rw [hf _ hne]; exact h2, h3, fun t ht => ?_⟩
    by_cases e : t = s
    · subst e; rw [hself]; exact fun e => hne (Option.some.inj e).symm
    · rw [hget t e]; exact h4 t ht
theorem NowM.del {A A' : FsA} {m : Option (List Int)} {s : ByteArray} (h : NowM A m) (hs : s ≠ nMan) (hn : A'.now = (Chg.remove s).ap A.now) (hf : A'.file = A.file) : NowM A' m := by
  have hget : ∀ t, t ≠ s → dget A'.now t = dget A.now t := fun t ht => by rw [hn]; exact dget_del_other ht
  have hself : dget A'.now s = none := by rw [hn]; exact dget_del_same _
  cases m with
  | none => show dget A'.now nMan = none; rw [hget _ (Ne.symm hs)]; exact h
  | some B =>
    obtain ⟨b', f, h1, h2, h3, h4⟩ := h
    refine ⟨b', f, by rw [hget _ (Ne.symm hs)]; exact h1, by rw [hf]; exact h2, h3, fun t ht => ?_⟩
    by_cases e : t = s
    · subst e; rw [hself]; exact fun e => by cases e
    · rw [hget t e]; exact h4 t ht
theorem NowM.bytes {A A' : FsA} {m : Option (List Int)} {s : ByteArray} {b : Nat} (h : NowM A m) (hs : s ≠ nMan) (hd : dget A.now s = some b) (hn : A'.now = A.now) (hf : ∀ x, x ≠ b → A'.file x = A.file x) : NowM A' m := by
  cases m with
  | none => show dget A'.now nMan = none; rw [hn]; exact h
  | some B =>
    obtain ⟨b', f, h1, h2, h3, h4⟩ := h
    have hne : b' ≠ b := fun e => h4 s hs (by rw [e]; exact hd)
    exact ⟨b', f, by rw [hn]; exact h1, by rw [hf _ hne]; exact h2, h3, fun t ht => by rw [hn]; exact h4 t ht⟩
end Go.Proofs.YtkdjkmnalkalpaaGreatDoor
