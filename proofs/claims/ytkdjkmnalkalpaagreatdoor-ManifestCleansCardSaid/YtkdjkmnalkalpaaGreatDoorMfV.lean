/- Package manifest: what Save's steps make of a file system's state. Plain; nothing of the program. -/
import Derived.Test.YtkdjkmnalkalpaaGreatDoorFsOb
namespace Go.Proofs.YtkdjkmnalkalpaaGreatDoor
open Go.RowKit Go.Maps Go.WideMaps
set_option maxRecDepth 100000

def nMan : ByteArray := ⟨#[109, 97, 110, 105, 102, 101, 115, 116]⟩
def nTmp : ByteArray := ⟨#[109, 97, 110, 105, 102, 101, 115, 116, 46, 116, 109, 112]⟩
theorem nameMan : nameB nMan = true := by decide +kernel
theorem nameTmp : nameB nTmp = true := by decide +kernel
theorem tmp_man : nTmp ≠ nMan := by decide
theorem man_tmp : nMan ≠ nTmp := by decide
def rmA (A : FsA) (s : ByteArray) : FsA × Int := if (removeA A s).2 = 3 then ((removeA A s).1, 0) else removeA A s
def SaveStep (B : List Int) : Nat → FsA → FsA → Int → Prop
  | 0, A, A', c => (A', c) = rmA A nTmp
  | 1, A, A', c => ∃ b, A.file b = none ∧ (A', c) = createA A nTmp b
  | 2, A, A', c => (A', c) = appendA A nTmp B
  | 3, A, A', c => (A', c) = syncA A nTmp
  | 4, A, A', c => (A', c) = renameA A nTmp nMan
  | 5, A, A', c => (A', c) = dirA A
  | _, _, _, _ => False
inductive Runs (B : List Int) : Nat → FsA → FsA → Int → Prop
  | done {A : FsA} : Runs B 6 A A 0
  | fail {i : Nat} {A A' : FsA} {c : Int} : SaveStep B i A A' c → c ≠ 0 → Runs B i A A' c
  | next {i : Nat} {A A1 A' : FsA} {c : Int} : SaveStep B i A A1 0 → Runs B (i + 1) A1 A' c → Runs B i A A' c
structure SameD (A A' : FsA) : Prop where
  now : A'.now = A.now
  sure : A'.sure = A.sure
  since : A'.since = A.since
  file : A'.file = A.file
theorem SameD.refl (A : FsA) : SameD A A := ⟨rfl, rfl, rfl, rfl⟩
theorem SameD.step (A : FsA) : SameD A (stepA A).1 := by
  obtain ⟨h1, h2, h3, h4, _, _⟩ := stepA_same A
  exact ⟨h1, h2, h3, h4⟩
theorem SameD.pre {A A' : FsA} (h : SameD A A') (i : Nat) : preD A' i = preD A i := by unfold preD; rw [h.since, h.sure]
structure Chgd (c : Chg) (A A' : FsA) : Prop where
  now : A'.now = c.ap A.now
  sure : A'.sure = A.sure
  since : A'.since = A.since ++ [c]
theorem Chgd.pre {c : Chg} {A A' : FsA} (h : Chgd c A A') (i : Nat) : preD A' i = if i ≤ A.since.length then preD A i else c.ap (preD A A.since.length) := by
  have e : preD A' i = preD (changeA A c) i := by unfold preD changeA; rw [h.since, h.sure]
  rw [e, preD_change]
theorem fault_not3 (k : Int) : faultOf k ≠ 3 := by unfold faultOf; split <;> (try split) <;> (try split) <;> omega
theorem step_not3 (A : FsA) : (stepA A).2.2 ≠ 3 := by
  unfold stepA
  split
  · show (22 : Int) ≠ 3; decide
  · exact fault_not3 _
theorem rm_eff {A A' : FsA} {c : Int} {s : ByteArray} (hs : nameB s = true) (h : (A', c) = rmA A s) :
    (c ≠ 0 ∧ SameD A A') ∨ (c = 0 ∧ dget A.now s = none ∧ A' = A) ∨ (c = 0 ∧ Chgd (.remove s) A A' ∧ A'.file = A.file) := by
  unfold rmA removeA at h
  cases hd : dget A.now s with
  | none =>
    rw [findA_none hs hd] at h
    simp at h
    exact .inr (.inl ⟨h.2, rfl, h.1⟩)
  | some b =>
    rw [findA_some hs hd] at h
    simp only [if_true] at h
    unfold doneA at h
    have hn := step_not3 A
    have hsm := SameD.step A
    by_cases h0 : (stepA A).2.2 = 0
    · simp [h0] at h
      obtain ⟨rfl, rfl⟩ := h
      refine .inr (.inr ⟨rfl, ⟨?_, hsm.sure, ?_⟩, hsm.file⟩)
      · exact congrArg (fun D => Chg.ap D (.remove s)) hsm.now
      · exact congrArg (· ++ [Chg.remove s]) hsm.since
    · simp [h0, hn] at h
      obtain ⟨rfl, rfl⟩ := h
      exact .inl ⟨h0, hsm⟩
theorem create_eff {A A' : FsA} {c : Int} {s : ByteArray} {b : Nat} (hs : nameB s = true) (h : (A', c) = createA A s b) :
    (c ≠ 0 ∧ SameD A A') ∨ (c = 0 ∧ dget A.now s = none ∧ Chgd (.create s b) A A' ∧ ∃ k, A'.file = fun x => if x = b then some ⟨k, [], 0⟩ else A.file x) := by
  unfold createA at h
  rw [if_pos hs] at h
  have hsm := SameD.step A
  split at h
  · cases h; exact .inl ⟨by decide, .refl _⟩
  · rename_i hd
    split at h
    · cases h; exact .inl ⟨by decide, .refl _⟩
    · split at h
      · cases h
        refine .inr ⟨rfl, by simpa using hd, ⟨?_, hsm.sure, ?_⟩, (stepA A).1.created, ?_⟩
        · exact congrArg (fun D => Chg.ap D (.create s b)) hsm.now
        · exact congrArg (· ++ [Chg.create s b]) hsm.since
        · funext x
          show (if x = b then _ else (stepA A).1.file x) = _
          rw [hsm.file]
      · rename_i h0; cases h; exact .inl ⟨h0, hsm⟩
theorem append_eff {A A' : FsA} {c : Int} {s : ByteArray} {b : Nat} {f : Fil} {p : List Int} (hs : nameB s = true) (hd : dget A.now s = some b) (hf : A.file b = some f) (h : (A', c) = appendA A s p) :
    A'.now = A.now ∧ A'.sure = A.sure ∧ A'.since = A.since ∧ ∃ d, (A'.file = fun x => if x = b then some { f with data := d } else A.file x) ∧ (c = 0 → d = f.data ++ p) := by
  unfold appendA at h
  rw [findA_some hs hd] at h
  simp only [hf] at h
  have hsm := SameD.step A
  have keep : A.file = fun x => if x = b then some { f with data := f.data } else A.file x := by
    funext x
    by_cases e : x = b
    · subst e; rw [if_pos rfl, hf]
    · rw [if_neg e]
  unfold putA at h
  split at h
  · cases h; exact ⟨rfl, rfl, rfl, f.data, keep, fun e => by cases e⟩
  · split at h
    · split at h
      · cases h
        exact ⟨hsm.now, hsm.sure, hsm.since, f.data, by rw [hsm.file]; exact keep, fun e => by cases e⟩
      · cases h
        refine ⟨hsm.now, hsm.sure, hsm.since, f.data ++ p, ?_, fun _ => rfl⟩
        funext x
        show (if x = b then _ else (stepA A).1.file x) = _
        rw [hsm.file]
    · rename_i h0
      cases h
      refine ⟨hsm.now, hsm.sure, hsm.since, f.data ++ p.take (partOf (stepA A).2.1 p.length (A.room - (usedA A : Int))).toNat, ?_, fun e => absurd e h0⟩
      funext x
      show (if x = b then _ else (stepA A).1.file x) = _
      rw [hsm.file]
theorem sync_eff {A A' : FsA} {c : Int} {s : ByteArray} {b : Nat} {f : Fil} (hs : nameB s = true) (hd : dget A.now s = some b) (hf : A.file b = some f) (h : (A', c) = syncA A s) :
    (c ≠ 0 ∧ SameD A A') ∨ (c = 0 ∧ A'.now = A.now ∧ A'.sure = A.sure ∧ A'.since = A.since ∧ A'.file = fun x => if x = b then some { f with sure := f.data.length } else A.file x) := by
  unfold syncA at h
  rw [findA_some hs hd] at h
  simp only [if_true] at h
  unfold doneA at h
  have hsm := SameD.step A
  split at h
  · cases h
    refine .inr ⟨rfl, hsm.now, hsm.sure, hsm.since, ?_⟩
    funext x
    show (if some x = some b then _ else _) = _
    by_cases e : x = b
    · subst e
      rw [if_pos rfl, if_pos rfl]
      show ((stepA A).1.file x).map _ = _
      rw [hsm.file, hf]
      rfl
    · rw [if_neg (fun k => e (Option.some.inj k)), if_neg e]
      show (stepA A).1.file x = _
      rw [hsm.file]
  · rename_i h0; cases h; exact .inl ⟨h0, hsm⟩
theorem rename_eff {A A' : FsA} {c : Int} {a b : ByteArray} (ha : nameB a = true) (hb : nameB b = true) (h : (A', c) = renameA A a b) :
    (c ≠ 0 ∧ SameD A A') ∨ (c = 0 ∧ Chgd (.rename a b) A A' ∧ A'.file = A.file) := by
  unfold renameA at h
  rw [if_pos ⟨ha, hb⟩] at h
  have hsm := SameD.step A
  split at h
  · cases h; exact .inl ⟨by decide, .refl _⟩
  · unfold doneA at h
    split at h
    · cases h
      refine .inr ⟨rfl, ⟨?_, hsm.sure, ?_⟩, hsm.file⟩
      · exact congrArg (fun D => Chg.ap D (.rename a b)) hsm.now
      · exact congrArg (· ++ [Chg.rename a b]) hsm.since
    · rename_i h0; cases h; exact .inl ⟨h0, hsm⟩
theorem dir_eff {A A' : FsA} {c : Int} (h : (A', c) = dirA A) : (c ≠ 0 ∧ SameD A A') ∨ (c = 0 ∧ A'.now = A.now ∧ A'.sure = A.now ∧ A'.since = [] ∧ A'.file = A.file) := by
  unfold dirA doneA at h
  have hsm := SameD.step A
  split at h
  · cases h
    exact .inr ⟨rfl, hsm.now, hsm.now, rfl, hsm.file⟩
  · rename_i h0; cases h; exact .inl ⟨h0, hsm⟩
end Go.Proofs.YtkdjkmnalkalpaaGreatDoor
