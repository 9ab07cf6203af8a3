/- Package manifest: what a crash leaves of it, and what is read. Plain; nothing of the program. -/
import Derived.Test.YtigbgajelkknbaaGreatDoorMfU
import Derived.Test.YtigbgajelkknbaaGreatDoorMfF
namespace Go.Proofs.YtigbgajelkknbaaGreatDoor
open Go.RowKit Go.Maps Go.WideMaps
set_option maxRecDepth 100000

theorem whole_sure {f : Fil} (h : f.sure = f.data.length) (t num : Int) : (crashedF f t num).sure = (crashedF f t num).data.length := by
  rw [whole_left h]
  have := leftN_le f t (by omega)
  show leftN f t = _
  unfold leftN at this ⊢
  omega
theorem crash_at {A : FsA} {n : Nat} {d : Int} {tails : List Int} {bs : List Nat} {m : Option (List Int)} (hI : Inv A n) (hl : bs.length = (namesD (leftD A d)).length) (hnd : bs.Nodup) (h : AtM A (leftD A d) m) : AllM (crashA A d tails bs) m := by
  have hp : ∀ i, preD (crashA A d tails bs) i = (crashA A d tails bs).now := fun i => by
    have hs : (crashA A d tails bs).since = [] := (crashX_base A (leftD A d) tails ((namesD (leftD A d)).zip bs) (newA A.room) ⟨rfl, rfl, rfl, rfl, rfl, rfl⟩).2.2.2.2.1
    unfold preD
    rw [hs]
    simp
    rfl
  intro i
  rw [hp]
  cases m with
  | none => exact crash_gone hI hl h
  | some B =>
    obtain ⟨b, f, h1, h2, h3, h4⟩ := h
    obtain ⟨b', num, e1, e2⟩ := crash_get (tails := tails) hI hl hnd h1 h2
    exact ⟨b', _, e1, e2, (whole_left h4 _ _).trans h3, whole_sure h4 _ _⟩
theorem crash_calm (A : FsA) (d : Int) (tails : List Int) (bs : List Nat) : (crashA A d tails bs).armed = false ∧ (crashA A d tails bs).plan = [] := by
  have := crashX_base A (leftD A d) tails ((namesD (leftD A d)).zip bs) (newA A.room) ⟨rfl, rfl, rfl, rfl, rfl, rfl⟩
  exact ⟨this.2.1, this.2.2.2.1⟩
theorem read_all {A : FsA} {n : Nat} {m : Option (List Int)} (hI : Inv A n) (h : AllM A m) : readA A nMan = (m.getD [], if m.isSome then 0 else 3) := by
  have h1 := h A.since.length
  rw [← hI.now] at h1
  cases m with
  | none => exact readA_none nameMan h1
  | some B =>
    obtain ⟨b, f, h1, h2, h3, h4⟩ := h1
    rw [readA_some nameMan h1 h2, h3]
    rfl
/-- The manifest's bytes. -/
def bytM (m : Option (Int × List Int)) : Option (List Int) := m.map fun p => manB p.1 p.2
theorem bytM_byt (m : Option (Int × List Int)) : Fr.Byt ((bytM m).getD []) := by
  cases m with
  | none => exact Fr.Byt.nil
  | some p => exact manB_byt _ _
/-- Swapped: behind a Save and a crash it is the one or the other. -/
theorem swapped {A A' : FsA} {n : Nat} {v c d : Int} {ns : List Int} {tails : List Int} {bs : List Nat} {m : Option (List Int)} (hI : Inv A n) (hI' : Inv A' (n + 18)) (hg : GoodM v ns) (h : AllM A m) (hr : SaveR v ns A A' c)
    (hl : bs.length = (namesD (leftD A' d)).length) (hnd : bs.Nodup) : (c ≠ 0 ∧ AllM (crashA A' d tails bs) m) ∨ AllM (crashA A' d tails bs) (some (manB v ns)) := by
  rcases hr with ⟨_, hr⟩ | ⟨hb, _⟩
  · obtain ⟨h1, h2⟩ := runs_all hI h hr
    by_cases hc : c = 0
    · exact .inr (crash_at hI' hl hnd (h2 hc _))
    · rcases h1 (withinOf d A'.since.length).toNat with h3 | h3
      · exact .inl ⟨hc, crash_at hI' hl hnd h3⟩
      · exact .inr (crash_at hI' hl hnd h3)
  · exact absurd hg hb
theorem AllM.plan {A : FsA} {m : Option (List Int)} (h : AllM A m) (l : List Int) : AllM { A with plan := l } m := fun i => h i
theorem AllM.arm {A : FsA} {m : Option (List Int)} (h : AllM A m) (k : Int) : AllM (armA A k).1 m := by
  unfold armA
  split
  · exact h
  · split
    · exact h
    · exact fun i => h i
theorem arm_ok {A : FsA} {k : Int} (ha : A.armed = false) (hk : 0 ≤ k) : (armA A k).2 = 0 := by
  unfold armA
  rw [if_neg (by omega)]
  have : deadB A.armed A.left = false := by rw [ha]; rfl
  rw [this]
  simp
theorem new_all (room : Int) : AllM (newA room) none := fun i => by
  have : preD (newA room) i = .map [] := by unfold preD newA; simp
  show dget _ nMan = none
  rw [this]
  rfl
end Go.Proofs.YtigbgajelkknbaaGreatDoor
