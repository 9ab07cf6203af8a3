/- Package manifest: what a Save leaves, whole: the manifest ahead of it, or the new one. Plain; nothing of the program. -/
import Derived.Test.YtkdjkmnalkalpaaGreatDoorMfS
import Derived.Test.YtkdjkmnalkalpaaGreatDoorFsSw
namespace Go.Proofs.YtkdjkmnalkalpaaGreatDoor
open Go.RowKit Go.Maps Go.WideMaps
set_option maxRecDepth 100000

def AtM (A : FsA) (D : DataW Unit) : Option (List Int) → Prop
  | none => dget D nMan = none
  | some B => ∃ b f, dget D nMan = some b ∧ A.file b = some f ∧ f.data = B ∧ f.sure = f.data.length
def AllM (A : FsA) (m : Option (List Int)) : Prop := ∀ i, AtM A (preD A i) m
def NotB (A : FsA) (b : Nat) : Prop := ∀ i, dget (preD A i) nMan ≠ some b
theorem AtM.file {A A' : FsA} {D : DataW Unit} {m : Option (List Int)} (h : AtM A D m) (hf : ∀ b f, dget D nMan = some b → A.file b = some f → A'.file b = some f) : AtM A' D m := by
  cases m with
  | none => exact h
  | some B =>
    obtain ⟨b, f, h1, h2, h3, h4⟩ := h
    exact ⟨b, f, h1, hf b f h1 h2, h3, h4⟩
theorem AtM.dir {A : FsA} {D D' : DataW Unit} {m : Option (List Int)} (h : AtM A D m) (hd : dget D' nMan = dget D nMan) : AtM A D' m := by
  cases m with
  | none => exact hd.trans h
  | some B =>
    obtain ⟨b, f, h1, h2, h3, h4⟩ := h
    exact ⟨b, f, hd.trans h1, h2, h3, h4⟩
theorem AllM.same {A A' : FsA} {m : Option (List Int)} (h : AllM A m) (hs : SameD A A') : AllM A' m := fun i => by
  rw [hs.pre]
  exact (h i).file fun b f _ hf => by rw [hs.file]; exact hf
theorem ap_remove_man {D : DataW Unit} : dget (Chg.ap D (.remove nTmp)) nMan = dget D nMan := dget_del_other man_tmp
theorem ap_create_man {D : DataW Unit} (b : Nat) : dget (Chg.ap D (.create nTmp b)) nMan = dget D nMan := dget_put_other man_tmp _
theorem ap_rename_man {D : DataW Unit} (hD : Maps.IsMap D) {b : Nat} (h : dget D nTmp = some b) : dget (Chg.ap D (.rename nTmp nMan)) nMan = some b := by
  show dget ((D.del (keyL nTmp)).put (keyL nMan) (datOf (dget D nTmp))) nMan = some b
  rw [h]
  exact dget_put_same (hD.del _) nMan b
theorem AllM.chg {A A' : FsA} {c : Chg} {m : Option (List Int)} (h : AllM A m) (hc : Chgd c A A') (hm : ∀ D, dget (Chg.ap D c) nMan = dget D nMan) (hf : ∀ b f i, dget (preD A i) nMan = some b → A.file b = some f → A'.file b = some f) : AllM A' m := fun i => by
  rw [hc.pre]
  split
  · exact (h i).file fun b f h1 h2 => hf b f i h1 h2
  · exact ((h _).file fun b f h1 h2 => hf b f _ h1 h2).dir (hm _)
theorem NotB.chg {A A' : FsA} {c : Chg} {b : Nat} (h : NotB A b) (hc : Chgd c A A') (hm : ∀ D, dget (Chg.ap D c) nMan = dget D nMan) : NotB A' b := fun i => by
  rw [hc.pre]
  split
  · exact h i
  · rw [hm]; exact h _
theorem NotB.fresh {A : FsA} {b : Nat} {m : Option (List Int)} (h : AllM A m) (hb : A.file b = none) : NotB A b := fun i e => by
  cases m with
  | none => rw [show dget (preD A i) nMan = none from h i] at e; cases e
  | some B =>
    obtain ⟨b', f, h1, h2, _⟩ := h i
    rw [h1] at e
    cases e
    rw [hb] at h2
    cases h2
theorem runs_all {A A' : FsA} {B : List Int} {c : Int} {n : Nat} {m : Option (List Int)} (hI : Inv A n) (h : AllM A m) (hr : Runs B 0 A A' c) :
    (∀ i, AtM A' (preD A' i) m ∨ AtM A' (preD A' i) (some B)) ∧ (c = 0 → AllM A' (some B)) := by
  have bad : ∀ {A' : FsA} {c : Int}, c ≠ 0 → AllM A' m → (∀ i, AtM A' (preD A' i) m ∨ AtM A' (preD A' i) (some B)) ∧ (c = 0 → AllM A' (some B)) := fun hc h => ⟨fun i => .inl (h i), fun e => absurd e hc⟩
  -- the old tmp
  have s0 : ∀ {A1 : FsA} {c : Int}, SaveStep B 0 A A1 c → AllM A1 m ∧ (c = 0 → dget A1.now nTmp = none) := by
    intro A1 c hs
    rcases rm_eff nameTmp hs with ⟨hc, hs⟩ | ⟨_, hd, rfl⟩ | ⟨_, hc, hf⟩
    · exact ⟨h.same hs, fun e => absurd e hc⟩
    · exact ⟨h, fun _ => hd⟩
    · exact ⟨h.chg hc (fun _ => ap_remove_man) fun b f _ _ h2 => by rw [hf]; exact h2, fun _ => by rw [hc.now]; exact dget_del_same _⟩
  cases hr with
  | fail hs hc => exact bad hc (s0 hs).1
  | @next _ _ A1 _ _ hs hr =>
    obtain ⟨h1, _⟩ := s0 hs
    have hI1 := inv_step hI hs
    clear s0 hs h hI
    -- the new tmp
    have s1 : ∀ {A2 : FsA} {c : Int}, SaveStep B 1 A1 A2 c → AllM A2 m ∧ (c = 0 → ∃ b k, NotB A2 b ∧ dget A2.now nTmp = some b ∧ A2.file b = some ⟨k, [], 0⟩) := by
      rintro A2 c ⟨b, hb, hs⟩
      rcases create_eff nameTmp hs with ⟨hc, hs⟩ | ⟨_, _, hc, k, hf⟩
      · exact ⟨h1.same hs, fun e => absurd e hc⟩
      · have hn := NotB.fresh h1 hb
        refine ⟨h1.chg hc (fun _ => ap_create_man b) fun b' f i e1 e2 => ?_, fun _ => ⟨b, k, hn.chg hc fun _ => ap_create_man b, ?_, by rw [hf]; simp⟩⟩
        · rw [hf]
          simp only
          rw [if_neg (fun e => hn i (by rw [e1, e]))]
          exact e2
        · rw [hc.now]
          exact dget_put_same hI1.tidyNow.isMap _ _
    cases hr with
    | fail hs hc => exact bad hc (s1 hs).1
    | @next _ _ A2 _ _ hs hr =>
      obtain ⟨h2, hx⟩ := s1 hs
      obtain ⟨b, k, hn2, hd2, hf2⟩ := hx rfl
      have hI2 := inv_step hI1 hs
      clear s1 hs h1 hI1 hx
      -- its bytes
      have s2 : ∀ {A3 : FsA} {c : Int}, SaveStep B 2 A2 A3 c → AllM A3 m ∧ NotB A3 b ∧ dget A3.now nTmp = some b ∧ (c = 0 → A3.file b = some ⟨k, B, 0⟩) := by
        intro A3 c hs
        obtain ⟨e1, e2, e3, d, e4, e5⟩ := append_eff nameTmp hd2 hf2 hs
        have hp : ∀ i, preD A3 i = preD A2 i := fun i => by unfold preD; rw [e2, e3]
        refine ⟨fun i => ?_, fun i => by rw [hp]; exact hn2 i, by rw [e1]; exact hd2, fun e => ?_⟩
        · rw [hp]
          refine (h2 i).file fun b' f g1 g2 => ?_
          rw [e4]
          simp only
          rw [if_neg (fun e => hn2 i (by rw [g1, e]))]
          exact g2
        · rw [e4]
          simp only [if_true]
          have := e5 e
          rw [this]
          rfl
      cases hr with
      | fail hs hc => exact bad hc (s2 hs).1
      | @next _ _ A3 _ _ hs hr =>
        obtain ⟨h3, hn3, hd3, hx⟩ := s2 hs
        have hf3 := hx rfl
        have hI3 := inv_step hI2 hs
        clear s2 hs h2 hI2 hx hn2 hd2 hf2
        -- it is sure
        have s3 : ∀ {A4 : FsA} {c : Int}, SaveStep B 3 A3 A4 c → AllM A4 m ∧ (c = 0 → dget A4.now nTmp = some b ∧ A4.file b = some ⟨k, B, B.length⟩) := by
          intro A4 c hs
          rcases sync_eff nameTmp hd3 hf3 hs with ⟨hc, hs⟩ | ⟨_, e1, e2, e3, e4⟩
          · exact ⟨h3.same hs, fun e => absurd e hc⟩
          · have hp : ∀ i, preD A4 i = preD A3 i := fun i => by unfold preD; rw [e2, e3]
            refine ⟨fun i => ?_, fun _ => ⟨by rw [e1]; exact hd3, by rw [e4]; simp⟩⟩
            rw [hp]
            refine (h3 i).file fun b' f g1 g2 => ?_
            rw [e4]
            simp only
            rw [if_neg (fun e => hn3 i (by rw [g1, e]))]
            exact g2
        cases hr with
        | fail hs hc => exact bad hc (s3 hs).1
        | @next _ _ A4 _ _ hs hr =>
          obtain ⟨h4, hx⟩ := s3 hs
          obtain ⟨hd4, hf4⟩ := hx rfl
          have hI4 := inv_step hI3 hs
          clear s3 hs h3 hI3 hx hn3 hd3 hf3
          -- its name is changed
          have s4 : ∀ {A5 : FsA} {c : Int}, SaveStep B 4 A4 A5 c → (c ≠ 0 ∧ AllM A5 m) ∨ (c = 0 ∧ (∀ i, AtM A5 (preD A5 i) m ∨ AtM A5 (preD A5 i) (some B)) ∧ AtM A5 A5.now (some B)) := by
            intro A5 c hs
            rcases rename_eff nameTmp nameMan hs with ⟨hc, hs⟩ | ⟨hz, hc, hf⟩
            · exact .inl ⟨hc, h4.same hs⟩
            · have hmp := hI4.tidyNow.isMap
              have hnew : AtM A5 (Chg.ap A4.now (.rename nTmp nMan)) (some B) := ⟨b, _, ap_rename_man hmp hd4, by rw [hf]; exact hf4, rfl, rfl⟩
              refine .inr ⟨hz, fun i => ?_, by rw [hc.now]; exact hnew⟩
              rw [hc.pre]
              split
              · exact .inl ((h4 i).file fun b' f _ g2 => by rw [hf]; exact g2)
              · exact .inr (by rw [← hI4.now]; exact hnew)
          cases hr with
          | fail hs hc =>
            rcases s4 hs with ⟨_, h5⟩ | ⟨h5, _⟩
            · exact bad hc h5
            · exact absurd h5 hc
          | @next _ _ A5 _ _ hs hr =>
            rcases s4 hs with ⟨h5, _⟩ | ⟨_, h5, hn5⟩
            · exact absurd rfl h5
            · -- the directory is sure
              have s5 : ∀ {A6 : FsA} {c : Int}, SaveStep B 5 A5 A6 c → (c ≠ 0 ∧ ∀ i, AtM A6 (preD A6 i) m ∨ AtM A6 (preD A6 i) (some B)) ∨ (c = 0 ∧ AllM A6 (some B)) := by
                intro A6 c hs
                rcases dir_eff hs with ⟨hc, hs⟩ | ⟨hz, e1, e2, e3, e4⟩
                · refine .inl ⟨hc, fun i => ?_⟩
                  rw [hs.pre]
                  exact (h5 i).imp (fun h => h.file fun b f _ g => by rw [hs.file]; exact g) (fun h => h.file fun b f _ g => by rw [hs.file]; exact g)
                · refine .inr ⟨hz, fun i => ?_⟩
                  have : preD A6 i = A5.now := by unfold preD; rw [e2, e3]; simp
                  rw [this]
                  exact hn5.file fun b f _ g => by rw [e4]; exact g
              cases hr with
              | fail hs hc =>
                rcases s5 hs with ⟨_, h6⟩ | ⟨h6, _⟩
                · exact ⟨h6, fun e => absurd e hc⟩
                · exact absurd h6 hc
              | next hs hr =>
                rcases s5 hs with ⟨h6, _⟩ | ⟨_, h6⟩
                · exact absurd rfl h6
                · cases hr with
                  | done => exact ⟨fun i => .inr (h6 i), fun _ => h6⟩
                  | fail hs _ => exact hs.elim
                  | next hs _ => exact hs.elim
end Go.Proofs.YtkdjkmnalkalpaaGreatDoor
