/- The reference of layer 2 (rubricref02): names in memory; what 'find' answers. The reference of layer 2 (rubricref02): what 'with' makes of names. The reference of layer 2 (rubricref02): what 'step' makes of a file system. The reference of layer 2 (rubricref02): what 'turn' makes of a file system. The reference of layer 2 (rubricref02): a file system of it, in memory; 'step' and 'SyncDir' by what they make of it. -/
import Derived.Test.YtkdjkmnalkalpaaGreatDoorFsX
import Derived.Test.YtkdjkmnalkalpaaGreatDoorFsOb
import Derived.Test.YtkdjkmnalkalpaaGreatDoorFsSw
import Derived.Test.YtkdjkmnalkalpaaGreatDoorQuiet
namespace Go.Proofs.YtkdjkmnalkalpaaGreatDoor
open Go.RowKit
set_option maxRecDepth 100000

abbrev RN := ByteArray × Int
def RNames (w : World) (v : Value) (l : List RN) : Prop :=
  (v = .slice none 0 0 ∧ l = []) ∨ ∃ b o cap, v = .slice (some ⟨b, o, none⟩) l.length cap ∧ b < w.heap.size ∧ ∀ (j : Nat) (n : RN), l[j]? = some n → w.cell? ⟨b, o + j * 2, none⟩ = some (.string n.1) ∧ w.cell? ⟨b, o + j * 2 + 1, none⟩ = some (.int .i64 n.2)
theorem RNames.slice {w : World} {v : Value} {l : List RN} (h : RNames w v l) : ∃ a c, v = .slice a l.length c := by
  rcases h with ⟨rfl, rfl⟩ | ⟨b, o, cap, rfl, _⟩
  · exact ⟨_, _, rfl⟩
  · exact ⟨_, _, rfl⟩
def findR : List RN → ByteArray → Int
  | [], _ => -1
  | n :: l, s => if n.1 = s then n.2 else findR l s
end Go.Proofs.YtkdjkmnalkalpaaGreatDoor
namespace Go.Proofs.YtkdjkmnalkalpaaGreatDoor
open Go.RowKit
set_option maxRecDepth 100000

def flatRN (l : List RN) : List Value := l.flatMap fun n => [.string n.1, .int .i64 n.2]
def OwnRN (base : Nat) (w : World) (v : Value) (l : List RN) : Prop := w.ownsRow base 149 2 v l.length (flatRN l)
theorem OwnRN.slice {base : Nat} {w : World} {v : Value} {l : List RN} (h : OwnRN base w v l) : ∃ a c, v = .slice a l.length c := by
  rcases h.2 with ⟨rfl, h0⟩ | ⟨x, cap, cur, rfl, _⟩
  · exact ⟨none, 0, by rw [h0]⟩
  · exact ⟨_, _, rfl⟩
def withGo (n : RN) : List RN → Bool → List RN
  | [], done => if done then [] else [n]
  | x :: l, done => if x.1 = n.1 then withGo n l done else if done = false ∧ Op.bytesLess n.1.toList x.1.toList = true then n :: x :: withGo n l true else x :: withGo n l done
def withR (l : List RN) (n : RN) : List RN := withGo n l (decide (n.2 < 0))
section
variable {base : Nat} {w w' : World} {v : Value} {l : List RN}
theorem OwnRN.own (h : OwnRN base w v l) : ∀ j, v.ownBlock = some j → base ≤ j := by
  rcases h.2 with ⟨rfl, _⟩ | ⟨x, cap, cur, rfl, hb, _⟩
  · intro j hj; cases hj
  · intro j hj; cases hj; exact hb
theorem OwnRN.names (h : OwnRN base w v l) : RNames w v l := by
  rcases h.2 with ⟨rfl, h0⟩ | ⟨x, cap, cur, rfl, hb, hh, h1, h2, h3, h4⟩
  · exact .inl ⟨rfl, List.length_eq_zero_iff.1 h0⟩
  · refine .inr ⟨x, 0, cap, rfl, (Array.getElem?_eq_some_iff.1 hh).1, fun j n hj => ?_⟩
    have hjl : j < l.length := (List.getElem?_eq_some_iff.1 hj).1
    have hf : ∀ (l : List RN) (j : Nat) (n : RN), l[j]? = some n → (flatRN l)[j * 2]? = some (.string n.1) ∧ (flatRN l)[j * 2 + 1]? = some (.int .i64 n.2) := by
      intro l
      induction l with
      | nil => intro j n h; cases h
      | cons a l ih =>
        intro j n h
        cases j with
        | zero => cases h; exact ⟨rfl, rfl⟩
        | succ j =>
          have := ih j n (by simpa using h)
          have e : flatRN (a :: l) = .string a.1 :: .int .i64 a.2 :: flatRN l := rfl
          rw [e, show (j + 1) * 2 = j * 2 + 1 + 1 by omega]
          simpa using this
    obtain ⟨f1, f2⟩ := hf l j n hj
    rw [← h4, List.getElem?_take_of_lt (by omega)] at f1 f2
    constructor
    · rw [cell_of_row w x (0 + j * 2) cur _ _ hh, ← Array.getElem?_toList, Nat.zero_add]; exact f1
    · rw [cell_of_row w x (0 + j * 2 + 1) cur _ _ hh, ← Array.getElem?_toList, Nat.zero_add]; exact f2
theorem OwnRN.laid (h : OwnRN base w v l) (x : RN) : (w.alloc (.cells #[.string x.1, .int .i64 x.2] 149)).ownsRow base 149 2 v l.length (flatRN l) ∧
    ∀ j u, [Value.string x.1, .int .i64 x.2][j]? = some u → (w.alloc (.cells #[.string x.1, .int .i64 x.2] 149)).cell? ((⟨w.heap.size, 0, none⟩ : Addr).add j) = some u :=
  ⟨World.ownsRow.alloc h _, fun j u hu => by rw [Addr.add_mid, Nat.zero_add]; exact (Blk.new w 149 [.string x.1, .int .i64 x.2]).cell hu⟩
end
end Go.Proofs.YtkdjkmnalkalpaaGreatDoor
namespace Go.Proofs.YtkdjkmnalkalpaaGreatDoor
open Go.RowKit
set_option maxRecDepth 100000

def RPlan (w : World) (v : Value) (p : List Int) : Prop :=
  (v = .slice none 0 0 ∧ p = []) ∨ (∃ a, v = .slice (some a) 0 0 ∧ p = []) ∨ ∃ pb po cap, v = .slice (some ⟨pb, po, none⟩) p.length cap ∧ p.length ≤ cap ∧ pb < w.heap.size ∧ w.rangeAt pb po (p.map (Value.int .i64))
theorem RPlan.slice {w : World} {v : Value} {p : List Int} (h : RPlan w v p) : ∃ a c, v = .slice a p.length c := by
  rcases h with ⟨rfl, rfl⟩ | ⟨a, rfl, rfl⟩ | ⟨pb, po, cap, rfl, _⟩
  · exact ⟨_, _, rfl⟩
  · exact ⟨_, _, rfl⟩
  · exact ⟨_, _, rfl⟩
def fsV (room : Int) (f d s c : Value) (steps left : Int) (p : Value) : Value := .agg #[.int .i64 room, f, d, s, c, .int .i64 steps, .int .i64 left, p]
end Go.Proofs.YtkdjkmnalkalpaaGreatDoor
namespace Go.Proofs.YtkdjkmnalkalpaaGreatDoor
open Go.RowKit
set_option maxRecDepth 100000

def turnR (d l : List RN) : List RN := l.foldl withR d
def RRow (w : World) (v : Value) (xs : List Value) : Prop :=
  (v = .slice none 0 0 ∧ xs = []) ∨ ∃ b o cap, v = .slice (some ⟨b, o, none⟩) xs.length cap ∧ b < w.heap.size ∧ w.rangeAt b o xs
theorem RRow.slice {w : World} {v : Value} {xs : List Value} (h : RRow w v xs) : ∃ a c, v = .slice a xs.length c := by
  rcases h with ⟨rfl, rfl⟩ | ⟨b, o, cap, rfl, _⟩
  · exact ⟨_, _, rfl⟩
  · exact ⟨_, _, rfl⟩
theorem RRow.to {w w' : World} {v : Value} {xs : List Value} (h : RRow w v xs) (hs : ∀ k, v.ownBlock = some k → w'.heap[k]? = w.heap[k]?) : RRow w' v xs := by
  rcases h with h | ⟨b, o, cap, rfl, h3, h4⟩
  · exact .inl h
  · have hb := hs b rfl
    refine .inr ⟨b, o, cap, rfl, ?_, fun j u hu => by rw [World.cell?_of_block (w := w) hb]; exact h4 j u hu⟩
    have : w.heap[b]?.isSome := by simp [h3]
    rw [← hb] at this
    simpa using this
theorem RNames.to {w w' : World} {v : Value} {l : List RN} (h : RNames w v l) (hs : ∀ k, v.ownBlock = some k → w'.heap[k]? = w.heap[k]?) : RNames w' v l := by
  rcases h with h | ⟨b, o, cap, rfl, h3, h4⟩
  · exact .inl h
  · have hb := hs b rfl
    refine .inr ⟨b, o, cap, rfl, ?_, fun j n hn => ⟨by rw [World.cell?_of_block (w := w) hb]; exact (h4 j n hn).1, by rw [World.cell?_of_block (w := w) hb]; exact (h4 j n hn).2⟩⟩
    have : w.heap[b]?.isSome := by simp [h3]
    rw [← hb] at this
    simpa using this
def OwnRR (base : Nat) (w : World) (v : Value) (xs : List Value) : Prop := w.ownsRow base 29 1 v xs.length xs
theorem OwnRR.slice {base : Nat} {w : World} {v : Value} {xs : List Value} (h : OwnRR base w v xs) : ∃ a c, v = .slice a xs.length c := by
  rcases h.2 with ⟨rfl, h0⟩ | ⟨x, cap, cur, rfl, _⟩
  · exact ⟨none, 0, by rw [h0]⟩
  · exact ⟨_, _, rfl⟩
theorem OwnRR.own {base : Nat} {w : World} {v : Value} {xs : List Value} (h : OwnRR base w v xs) : ∀ j, v.ownBlock = some j → base ≤ j := by
  rcases h.2 with ⟨rfl, _⟩ | ⟨x, cap, cur, rfl, hb, _⟩
  · intro j hj; cases hj
  · intro j hj; cases hj; exact hb
end Go.Proofs.YtkdjkmnalkalpaaGreatDoor
namespace Go.Proofs.YtkdjkmnalkalpaaGreatDoor
open Go.RowKit
set_option maxRecDepth 100000

structure RSt where
  room : Int
  files : List RN
  dir : List RN
  sure : List RN
  changes : List (List RN)
  steps : Int
  left : Int
  plan : List Int
def OwnIn (P : Nat → Prop) (v : Value) : Prop := ∀ k, v.ownBlock = some k → P k
def OwnPl (P : Nat → Prop) (v : Value) : Prop := ∀ k, Live v k → P k
def ChOk (P : Nat → Prop) (w : World) (cvs : List Value) (cs : List (List RN)) : Prop := cvs.length = cs.length ∧ ∀ (i : Nat) (c : List RN), cs[i]? = some c → ∃ u, cvs[i]? = some u ∧ RNames w u c ∧ OwnIn P u
def RFs (P : Nat → Prop) (w : World) (v : Value) (R : RSt) : Prop :=
  ∃ fv dv sv cv pv cvs, v = fsV R.room fv dv sv cv R.steps R.left pv ∧ RNames w fv R.files ∧ RNames w dv R.dir ∧ RNames w sv R.sure ∧ RRow w cv cvs ∧ ChOk P w cvs R.changes ∧ RPlan w pv R.plan ∧
    OwnIn P fv ∧ OwnIn P dv ∧ OwnIn P sv ∧ OwnIn P cv ∧ OwnPl P pv
structure ROk (R : RSt) : Prop where
  dir : R.dir.length < 500000
  sure : R.sure.length < 500000
  files : R.files.length < 500000
  changes : R.changes.length < 500000
  each : ∀ c ∈ R.changes, c.length ≤ 2
  steps : 0 ≤ R.steps ∧ R.steps < 4611686018427387904
  left : -1 ≤ R.left ∧ R.left ≤ 9223372036854775807
  plan : R.plan.length < 1000
theorem RPlan.to {w w' : World} {v : Value} {p : List Int} (h : RPlan w v p) (hs : ∀ k, Live v k → w'.heap[k]? = w.heap[k]?) : RPlan w' v p := by
  rcases h with h | h | ⟨b, o, cap, rfl, h2, h3, h4⟩
  · exact .inl h
  · exact .inr (.inl h)
  by_cases hc : cap = 0
  · subst hc
    obtain rfl : p = [] := List.length_eq_zero_iff.1 (by omega)
    exact .inr (.inl ⟨_, rfl, rfl⟩)
  · have hb := hs b ⟨rfl, fun a e => by injection e with _ _ e; exact hc e⟩
    refine .inr (.inr ⟨b, o, cap, rfl, h2, ?_, fun j u hu => by rw [World.cell?_of_block (w := w) hb]; exact h4 j u hu⟩)
    have : w.heap[b]?.isSome := by simp [h3]
    rw [← hb] at this
    simpa using this
section
variable {P Q : Nat → Prop} {w w' : World} {v : Value} {R : RSt} {cvs : List Value} {cs : List (List RN)}
theorem OwnIn.mono (h : OwnIn P v) (hq : ∀ k, P k → Q k) : OwnIn Q v := fun k hk => hq k (h k hk)
theorem OwnPl.mono (h : OwnPl P v) (hq : ∀ k, P k → Q k) : OwnPl Q v := fun k hk => hq k (h k hk)
theorem RFs.to (h : RFs P w v R) (hs : ∀ k, P k → w'.heap[k]? = w.heap[k]?) : RFs P w' v R := by
  obtain ⟨fv, dv, sv, cv, pv, cvs, h0, h1, h2, h3, h4, h5, h6, o1, o2, o3, o4, o5⟩ := h
  exact ⟨fv, dv, sv, cv, pv, cvs, h0, h1.to fun k hk => hs k (o1 k hk), h2.to fun k hk => hs k (o2 k hk), h3.to fun k hk => hs k (o3 k hk), h4.to fun k hk => hs k (o4 k hk),
    ⟨h5.1, fun i c hc => by obtain ⟨u, e1, e2, e3⟩ := h5.2 i c hc; exact ⟨u, e1, e2.to fun k hk => hs k (e3 k hk), e3⟩⟩, h6.to fun k hk => hs k (o5 k hk), o1, o2, o3, o4, o5⟩
theorem RFs.mono (h : RFs P w v R) (hq : ∀ k, P k → Q k) : RFs Q w v R := by
  obtain ⟨fv, dv, sv, cv, pv, cvs, h0, h1, h2, h3, h4, h5, h6, o1, o2, o3, o4, o5⟩ := h
  exact ⟨fv, dv, sv, cv, pv, cvs, h0, h1, h2, h3, h4, ⟨h5.1, fun i c hc => by obtain ⟨u, e1, e2, e3⟩ := h5.2 i c hc; exact ⟨u, e1, e2, e3.mono hq⟩⟩, h6, o1.mono hq, o2.mono hq, o3.mono hq, o4.mono hq, o5.mono hq⟩
end
end Go.Proofs.YtkdjkmnalkalpaaGreatDoor
