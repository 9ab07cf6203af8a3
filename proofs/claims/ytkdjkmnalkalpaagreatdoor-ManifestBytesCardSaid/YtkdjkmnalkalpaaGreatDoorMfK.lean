/- Package manifest: what Saves leave of a file system that never fails. Plain; nothing of the program. -/
import Derived.Test.YtkdjkmnalkalpaaGreatDoorMfH
namespace Go.Proofs.YtkdjkmnalkalpaaGreatDoor
open Go.RowKit Go.Maps Go.WideMaps
set_option maxRecDepth 100000

theorem runs_now {A A' : FsA} {B : List Int} {c : Int} {n : Nat} {m : Option (List Int)} (hI : Inv A n) (hc : Calm A) (h : NowM A m) (hr : Runs B 0 A A' c) :
    (c = 0 → NowM A' (some B)) ∧ (c ≠ 0 → NowM A' m) := by
  have bad : ∀ {A' : FsA} {c : Int}, c ≠ 0 → NowM A' m → (c = 0 → NowM A' (some B)) ∧ (c ≠ 0 → NowM A' m) := fun hc h => ⟨fun e => absurd e hc, fun _ => h⟩
  have s0 : ∀ {A1 : FsA} {c : Int}, SaveStep B 0 A A1 c → NowM A1 m ∧ (c = 0 → dget A1.now nTmp = none) := by
    intro A1 c hs
    rcases rm_eff nameTmp hs with ⟨hc, hs⟩ | ⟨_, hd, rfl⟩ | ⟨_, hc, hf⟩
    · exact ⟨h.same hs, fun e => absurd e hc⟩
    · exact ⟨h, fun _ => hd⟩
    · exact ⟨h.del tmp_man hc.now hf, fun _ => by rw [hc.now]; exact dget_del_same _⟩
  cases hr with
  | fail hs hz => exact bad hz (s0 hs).1
  | @next _ _ A1 _ _ hs hr =>
    obtain ⟨h1, _⟩ := s0 hs
    have hI1 := inv_step hI hs
    have hc1 := (calm_save hc hs).1
    clear s0 hs h hI hc
    have s1 : ∀ {A2 : FsA} {c : Int}, SaveStep B 1 A1 A2 c → NowM A2 m ∧ (c = 0 → ∃ b k, dget A2.now nTmp = some b ∧ A2.file b = some ⟨k, [], 0⟩ ∧ ∀ s, s ≠ nTmp → dget A2.now s ≠ some b) := by
      rintro A2 c ⟨b, hb, hs⟩
      rcases create_eff nameTmp hs with ⟨hz, hs⟩ | ⟨_, _, hch, k, hf⟩
      · exact ⟨h1.same hs, fun e => absurd e hz⟩
      · have hm := hI1.tidyNow.isMap
        refine ⟨h1.put hm tmp_man hb hch.now (fun x hx => by rw [hf]; simp [hx]), fun _ => ⟨b, k, ?_, by rw [hf]; simp, fun s hs e => ?_⟩⟩
        · rw [hch.now]; exact dget_put_same hm _ _
        · rw [hch.now] at e
          rw [show dget (Chg.ap A1.now (.create nTmp b)) s = dget A1.now s from dget_put_other hs _] at e
          obtain ⟨f, hf'⟩ := hI1.named s b e
          rw [hb] at hf'
          cases hf'
    cases hr with
    | fail hs hz => exact bad hz (s1 hs).1
    | @next _ _ A2 _ _ hs hr =>
      obtain ⟨h2, hx⟩ := s1 hs
      obtain ⟨b, k, hd2, hf2, hu2⟩ := hx rfl
      have hI2 := inv_step hI1 hs
      have hc2 := (calm_save hc1 hs).1
      clear s1 hs h1 hI1 hx hc1
      have s2 : ∀ {A3 : FsA} {c : Int}, SaveStep B 2 A2 A3 c → NowM A3 m ∧ A3.now = A2.now ∧ (c = 0 → A3.file b = some ⟨k, B, 0⟩) := by
        intro A3 c hs
        obtain ⟨e1, _, _, d, e4, e5⟩ := append_eff nameTmp hd2 hf2 hs
        refine ⟨h2.bytes tmp_man hd2 e1 (fun x hx => by rw [e4]; simp [hx]), e1, fun e => ?_⟩
        rw [e4]
        simp only [if_true]
        rw [e5 e]
        rfl
      cases hr with
      | fail hs hz => exact bad hz (s2 hs).1
      | @next _ _ A3 _ _ hs hr =>
        obtain ⟨h3, hn3, hx⟩ := s2 hs
        have hf3 := hx rfl
        have hI3 := inv_step hI2 hs
        have hc3 := (calm_save hc2 hs).1
        have hd3 : dget A3.now nTmp = some b := by rw [hn3]; exact hd2
        have hu3 : ∀ s, s ≠ nTmp → dget A3.now s ≠ some b := fun s hs => by rw [hn3]; exact hu2 s hs
        clear s2 hs h2 hI2 hx hd2 hf2 hc2 hu2
        have s3 : ∀ {A4 : FsA} {c : Int}, SaveStep B 3 A3 A4 c → NowM A4 m ∧ (c = 0 → A4.now = A3.now ∧ A4.file b = some ⟨k, B, B.length⟩) := by
          intro A4 c hs
          rcases sync_eff nameTmp hd3 hf3 hs with ⟨hz, hs⟩ | ⟨_, e1, _, _, e4⟩
          · exact ⟨h3.same hs, fun e => absurd e hz⟩
          · exact ⟨h3.bytes tmp_man hd3 e1 (fun x hx => by rw [e4]; simp [hx]), fun _ => ⟨e1, by rw [e4]; simp⟩⟩
        cases hr with
        | fail hs hz => exact bad hz (s3 hs).1
        | @next _ _ A4 _ _ hs hr =>
          obtain ⟨h4, hx⟩ := s3 hs
          obtain ⟨hn4, hf4⟩ := hx rfl
          have hI4 := inv_step hI3 hs
          have hc4 := (calm_save hc3 hs).1
          have hd4 : dget A4.now nTmp = some b := by rw [hn4]; exact hd3
          have hu4 : ∀ s, s ≠ nTmp → dget A4.now s ≠ some b := fun s hs => by rw [hn4]; exact hu3 s hs
          clear s3 hs h3 hI3 hx hd3 hf3 hc3 hu3
          cases hr with
          | fail hs hz => exact absurd ((congrArg Prod.snd (show _ = renameA A4 nTmp nMan from hs)).trans (calm_rename_ok hc4 hd4)) hz
          | @next _ _ A5 _ _ hs hr =>
            have hc5 := (calm_save hc4 hs).1
            have hI5 := inv_step hI4 hs
            rcases rename_eff nameTmp nameMan hs with ⟨hx, _⟩ | ⟨_, hch, hf⟩
            · exact absurd rfl hx
            have hm := hI4.tidyNow.isMap
            have h5 : NowM A5 (some B) := by
              refine ⟨b, _, by rw [hch.now]; exact ap_rename_man hm hd4, by rw [hf]; exact hf4, rfl, fun s hs e => ?_⟩
              rw [hch.now] at e
              have e2 : dget (Chg.ap A4.now (.rename nTmp nMan)) s = dget (A4.now.del (keyL nTmp)) s := dget_put_other hs _
              rw [e2] at e
              by_cases ht : s = nTmp
              · subst ht
                rw [dget_del_same] at e
                cases e
              · rw [dget_del_other ht] at e
                exact hu4 s ht e
            cases hr with
            | fail hs hz => exact absurd ((congrArg Prod.snd (show _ = dirA A5 from hs)).trans (calm_dir_ok hc5)) hz
            | @next _ _ A6 _ _ hs hr =>
              rcases dir_eff hs with ⟨hx, _⟩ | ⟨_, e1, _, _, e4⟩
              · exact absurd rfl hx
              have h6 : NowM A6 (some B) := by
                obtain ⟨b', f, k1, k2, k3, k4⟩ := h5
                exact ⟨b', f, by rw [e1]; exact k1, by rw [e4]; exact k2, k3, fun s hs => by rw [e1]; exact k4 s hs⟩
              cases hr with
              | done => exact ⟨fun _ => h6, fun e => absurd rfl e⟩
              | fail hs _ => exact hs.elim
              | next hs _ => exact hs.elim
theorem create_now {A : FsA} {m : Option (List Int)} {n : Nat} (hI : Inv A n) (h : NowM A m) {s : ByteArray} (hs : s ≠ nMan) {b : Nat} (hb : A.file b = none) : NowM (createA A s b).1 m := by
  by_cases hn : nameB s = true
  · rcases create_eff (A' := (createA A s b).1) (c := (createA A s b).2) hn rfl with ⟨_, e⟩ | ⟨_, _, hch, k, hf⟩
    · exact h.same e
    · exact h.put hI.tidyNow.isMap hs hb hch.now fun x hx => by rw [hf]; simp [hx]
  · have : createA A s b = (A, 7) := by unfold createA; rw [if_neg hn]
    rw [this]
    exact h
theorem append_now {A : FsA} {m : Option (List Int)} {n : Nat} (hI : Inv A n) (h : NowM A m) {s : ByteArray} (hs : s ≠ nMan) (p : List Int) : NowM (appendA A s p).1 m := by
  by_cases hn : nameB s = true
  · cases hd : dget A.now s with
    | none =>
      have : appendA A s p = (A, 3) := by unfold appendA; rw [findA_none hn hd]
      rw [this]
      exact h
    | some b =>
      obtain ⟨f, hf⟩ := hI.named s b hd
      obtain ⟨e1, _, _, d, e4, _⟩ := append_eff (A' := (appendA A s p).1) (c := (appendA A s p).2) hn hd hf rfl
      exact h.bytes hs hd e1 fun x hx => by rw [e4]; simp [hx]
  · have hn' : nameB s = false := by simpa using hn
    have : appendA A s p = (A, 7) := by unfold appendA; rw [findA_bad hn']
    rw [this]
    exact h
theorem remove_now {A : FsA} {m : Option (List Int)} (h : NowM A m) {s : ByteArray} (hs : s ≠ nMan) : NowM (removeA A s).1 m := by
  unfold removeA
  split
  · rename_i hz
    unfold doneA
    have hsm := SameD.step A
    split
    · refine h.del hs ?_ hsm.file
      exact congrArg (fun D => Chg.ap D (.remove s)) hsm.now
    · exact h.same hsm
  · exact h
end Go.Proofs.YtkdjkmnalkalpaaGreatDoor
