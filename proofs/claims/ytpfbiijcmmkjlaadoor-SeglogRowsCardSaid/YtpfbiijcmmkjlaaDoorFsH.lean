/- Package simfs: 'Remove', 'Rename', 'Steps', 'Arm'. -/
import Derived.Test.YtpfbiijcmmkjlaaDoorFsG
namespace Go.Proofs.YtpfbiijcmmkjlaaDoor
open Go.RowKit Go.Maps Go.WideMaps
set_option maxRecDepth 100000

def changeA (A : FsA) (c : Chg) : FsA := { A with now := c.ap A.now, since := A.since ++ [c] }
/-- A step, and then f, if it went well. -/
def doneA (A : FsA) (f : FsA → FsA) : FsA × Int := if (stepA A).2.2 = 0 then (f (stepA A).1, 0) else ((stepA A).1, (stepA A).2.2)
def removeA (A : FsA) (s : ByteArray) : FsA × Int := if (findA A s).2 = 0 then doneA A (fun B => changeA B (.remove s)) else (A, (findA A s).2)
def renameA (A : FsA) (a b : ByteArray) : FsA × Int :=
  if nameB a = true ∧ nameB b = true then
    if dget A.now a = none then (A, 3) else doneA A (fun B => changeA B (.rename a b))
  else (A, 7)
/-- Room for one more change. -/
structure Few (A : FsA) : Prop where
  now : Maps.size A.now < 1000
  since : A.since.length < 1000
theorem Few.step {A : FsA} (h : Few A) : Few (stepA A).1 := ⟨by rw [(stepA_same A).1]; exact h.now, by rw [(stepA_same A).2.2.1]; exact h.since⟩

/-- A change made and done. -/
theorem made_done {w w1 w2 : World} {g : Nat} {S : Nat → Prop} {A : FsA} {v : Value} {c : Chg} (_h : Fs w g S A) (_hc : Clo w1 (newB w w1) v c) (hb : Below w.heap.size w w1)
    (h2 : Fs w2 g (grow (grow S w w1) w1 w2) (changeA A c)) (hk : Keep (grow S w w1) w1 w2) : Fs w2 g (grow S w w2) (changeA A c) ∧ Keep S w w2 := by
  rw [grow_trans S hb.size hk.size] at h2
  exact ⟨h2, (Keep.of_below hb : Keep S w w1).trans hk⟩
theorem made_any {w w1 : World} {g : Nat} {S : Nat → Prop} {A : FsA} {v : Value} {c : Chg} (h : Fs w g S A) (hf : Few A) (hc : Clo w1 (newB w w1) v c) (hb : Below w.heap.size w w1) :
    Calls Tryd.prog 37 #[.pointer (some ⟨g, 0, none⟩), v] w1 fun e w2 => e = .returned (.tuple #[]) ∧ Fs w2 g (grow S w w2) (changeA A c) ∧ Keep S w w2 :=
  (change_any g (grow S w w1) A v c w1 ((h.below hb).to grow_left fun _ _ _ => rfl) (hc.to (fun _ hk => .inr hk) fun _ _ _ _ => rfl) (by have := hf.now; omega) (by have := hf.since; omega)).mono fun e w2 ⟨he, h2, hk⟩ =>
    ⟨he, made_done h hc hb h2 hk⟩
theorem Fs.gS {w : World} {g : Nat} {S : Nat → Prop} {A : FsA} (h : Fs w g S A) : S g := by obtain ⟨_, _, _, _, _, _, hM⟩ := h; exact hM.gS
theorem grow_two {S : Nat → Prop} {w w1 w2 : World} {g : Nat} {A : FsA} (h : Fs w2 g (grow S w1 w2) A) (h1 : w.heap.size ≤ w1.heap.size) : Fs w2 g (grow S w w2) A :=
  h.to (fun k hk => hk.elim .inl fun h => .inr ⟨by omega, h.2⟩) fun _ _ _ => rfl

def armA (A : FsA) (n : Int) : FsA × Int := if n < 0 then (A, 1) else if deadB A.armed A.left = true then (A, 22) else ({ A with armed := true, left := n }, 0)
end Go.Proofs.YtpfbiijcmmkjlaaDoor
