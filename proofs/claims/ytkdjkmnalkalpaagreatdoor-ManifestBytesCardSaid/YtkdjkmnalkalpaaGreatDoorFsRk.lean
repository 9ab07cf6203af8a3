/- The reference of layer 2 (rubricref02): 'open', 'turn', 'SyncDir', 'Remove', 'Rename' by what they make of a file system. The reference of layer 2 (rubricref02): 'Remove' by what it makes of a file system. The reference of layer 2 (rubricref02): 'Rename' by what it makes of a file system. Names in order: what 'with' makes of them; how a directory that is a map tells the same as names in order. Plain; nothing is walked. The reference of layer 2 (rubricref02): rows of files of one's own; 'New', 'Used'. The reference of layer 2 (rubricref02): 'set' by what it makes of a file system. The reference of layer 2 (rubricref02): 'Sync' by what it makes of a file system. -/
import Derived.Test.YtkdjkmnalkalpaaGreatDoorFsRe
import Derived.Sort.Walk0
namespace Go.Proofs.YtkdjkmnalkalpaaGreatDoor
open Go.RowKit
set_option maxRecDepth 100000

end Go.Proofs.YtkdjkmnalkalpaaGreatDoor
namespace Go.Proofs.YtkdjkmnalkalpaaGreatDoor
open Go.RowKit
set_option maxRecDepth 100000

end Go.Proofs.YtkdjkmnalkalpaaGreatDoor
namespace Go.Proofs.YtkdjkmnalkalpaaGreatDoor
open Go.RowKit
set_option maxRecDepth 100000

end Go.Proofs.YtkdjkmnalkalpaaGreatDoor
namespace Go.Proofs.YtkdjkmnalkalpaaGreatDoor
open Go.RowKit Go.Maps Go.WideMaps
set_option maxRecDepth 100000

abbrev nmL (x : RN) : List UInt8 := x.1.data.toList
def Rising (l : List RN) : Prop := l.Pairwise fun a b => nmL a < nmL b
theorem findR_mem {x : RN} : ∀ (l : List RN), Rising l → x ∈ l → findR l x.1 = x.2
  | [], _, h => by cases h
  | y :: l, hr, h => by
    obtain ⟨h1, h2⟩ := List.pairwise_cons.1 hr
    show (if y.1 = x.1 then y.2 else findR l x.1) = _
    rcases List.mem_cons.1 h with rfl | h
    · rw [if_pos rfl]
    · rw [if_neg (fun e => by have := h1 x h; unfold nmL at this; rw [e] at this; exact absurd this (List.lt_irrefl _)), findR_mem l h2 h]
theorem findR_some {s : ByteArray} : ∀ (l : List RN), (∃ x ∈ l, x.1 = s ∧ findR l s = x.2) ∨ ((∀ x ∈ l, x.1 ≠ s) ∧ findR l s = -1)
  | [] => .inr ⟨fun _ h => (by cases h), rfl⟩
  | y :: l => by
    by_cases e : y.1 = s
    · exact .inl ⟨y, List.mem_cons_self, e, if_pos e⟩
    · have h0 : findR (y :: l) s = findR l s := if_neg e
      rcases findR_some (s := s) l with ⟨x, h1, h2, h3⟩ | ⟨h1, h2⟩
      · exact .inl ⟨x, List.mem_cons_of_mem _ h1, h2, h0.trans h3⟩
      · refine .inr ⟨fun x hx => ?_, h0.trans h2⟩
        rcases List.mem_cons.1 hx with rfl | hx
        · exact e
        · exact h1 x hx
theorem rise_nodup {l : List RN} (h : Rising l) : (l.map nmL).Nodup := by
  refine List.pairwise_map.2 (List.Pairwise.imp (fun {a b} hab e => ?_) h)
  rw [e] at hab; exact List.lt_irrefl _ hab

structure Rep (fl : Nat → Option Fil) (N : Nat) (D : DataW Unit) (l : List RN) : Prop where
  rise : Rising l
  num : ∀ x ∈ l, 0 ≤ x.2 ∧ x.2 < N
  look : ∀ s, (dget D s = none ∧ findR l s = -1) ∨ ∃ b f, dget D s = some b ∧ fl b = some f ∧ findR l s = f.num
section
variable {fl fl' : Nat → Option Fil} {N N' : Nat} {D : DataW Unit} {l : List RN}
theorem Rep.mono (h : Rep fl N D l) (hf : ∀ b f, fl b = some f → ∃ f', fl' b = some f' ∧ f'.num = f.num) (hN : N ≤ N') : Rep fl' N' D l :=
  ⟨h.rise, fun x hx => ⟨(h.num x hx).1, by have := (h.num x hx).2; omega⟩, fun s => (h.look s).imp id fun ⟨b, f, h1, h2, h3⟩ => by
    obtain ⟨f', g1, g2⟩ := hf b f h2
    exact ⟨b, f', h1, g1, by rw [g2]; exact h3⟩⟩
theorem Rep.mem (h : Rep fl N D l) (hfl : ∀ b f, fl b = some f → 0 ≤ f.num) (s : ByteArray) : (∃ b, dget D s = some b) ↔ ∃ x ∈ l, x.1 = s := by
  rcases h.look s with ⟨h1, h2⟩ | ⟨b, f, h1, h2, h3⟩
  · rw [h1]
    refine ⟨fun ⟨b, hb⟩ => (by cases hb), fun ⟨x, hx, e⟩ => ?_⟩
    have h4 := findR_mem l h.rise hx
    rw [e, h2] at h4
    have := (h.num x hx).1; omega
  · rw [h1]
    refine ⟨fun _ => ?_, fun _ => ⟨b, rfl⟩⟩
    rcases findR_some (s := s) l with ⟨x, g1, g2, _⟩ | ⟨_, g2⟩
    · exact ⟨x, g1, g2⟩
    · have := hfl b f h2; omega
theorem Rep.names (h : Rep fl N D l) (hfl : ∀ b f, fl b = some f → 0 ≤ f.num) (hT : Maps.Tidy D) (hO : OkD fl D) : namesD D = l.map nmL := by
  have hp : (strKeys D).Perm (l.map nmL) := by
    have hp0 : (namesD D).Perm (l.map nmL) := by
      refine (List.perm_ext_iff_of_nodup (names_nodup hT hO) (rise_nodup h.rise)).2 fun s => ?_
      rw [List.mem_map]
      constructor
      · intro hs
        obtain ⟨b, f, h1, h2, _⟩ := name_file hO hs
        obtain ⟨x, g1, g2⟩ := (h.mem hfl _).1 ⟨b, h1⟩
        exact ⟨x, g1, by unfold nmL; rw [g2]⟩
      · rintro ⟨x, hx, rfl⟩
        obtain ⟨b, hb⟩ := (h.mem hfl x.1).2 ⟨x, hx, rfl⟩
        refine mem_names hT.isMap (b := b) ?_
        rw [bytes_back]; exact hb
    exact (List.mergeSort_perm _ _).symm.trans hp0
  unfold namesD
  rw [mergeSort_of_perm hp]
  refine List.mergeSort_of_pairwise (List.pairwise_map.2 (List.Pairwise.imp (fun {a b} hab => ?_) h.rise))
  simp only [leB, decide_eq_true_eq]
  exact List.le_of_lt hab
end
end Go.Proofs.YtkdjkmnalkalpaaGreatDoor
namespace Go.Proofs.YtkdjkmnalkalpaaGreatDoor
open Go.RowKit
set_option maxRecDepth 100000

def OwnRF (base : Nat) (w : World) (v : Value) (l : List RN) : Prop := w.ownsRow base 155 2 v l.length (flatRN l)
theorem flatRN_nth : ∀ (l : List RN) (j : Nat) (n : RN), l[j]? = some n → (flatRN l)[j * 2]? = some (.string n.1) ∧ (flatRN l)[j * 2 + 1]? = some (.int .i64 n.2)
  | [], j, n, h => by cases h
  | a :: l, 0, n, h => by cases h; exact ⟨rfl, rfl⟩
  | a :: l, j + 1, n, h => by
    have := flatRN_nth l j n (by simpa using h)
    have e : flatRN (a :: l) = .string a.1 :: .int .i64 a.2 :: flatRN l := rfl
    rw [e, show (j + 1) * 2 = j * 2 + 1 + 1 by omega]
    simpa using this
section
variable {base : Nat} {w w' : World} {v : Value} {l : List RN}
theorem OwnRF.slice (h : OwnRF base w v l) : ∃ a c, v = .slice a l.length c := by
  rcases h.2 with ⟨rfl, h0⟩ | ⟨x, cap, cur, rfl, _⟩
  · exact ⟨none, 0, by rw [h0]⟩
  · exact ⟨_, _, rfl⟩
theorem OwnRF.own (h : OwnRF base w v l) : ∀ j, v.ownBlock = some j → base ≤ j := by
  rcases h.2 with ⟨rfl, _⟩ | ⟨x, cap, cur, rfl, hb, _⟩
  · intro j hj; cases hj
  · intro j hj; cases hj; exact hb
theorem OwnRF.names (h : OwnRF base w v l) : RNames w v l := by
  rcases h.2 with ⟨rfl, h0⟩ | ⟨x, cap, cur, rfl, hb, hh, h1, h2, h3, h4⟩
  · exact .inl ⟨rfl, List.length_eq_zero_iff.1 h0⟩
  · refine .inr ⟨x, 0, cap, rfl, (Array.getElem?_eq_some_iff.1 hh).1, fun j n hj => ?_⟩
    have hjl : j < l.length := (List.getElem?_eq_some_iff.1 hj).1
    obtain ⟨f1, f2⟩ := flatRN_nth l j n hj
    rw [← h4, List.getElem?_take_of_lt (by omega)] at f1 f2
    constructor
    · rw [cell_of_row w x (0 + j * 2) cur _ _ hh, ← Array.getElem?_toList, Nat.zero_add]; exact f1
    · rw [cell_of_row w x (0 + j * 2 + 1) cur _ _ hh, ← Array.getElem?_toList, Nat.zero_add]; exact f2
end
end Go.Proofs.YtkdjkmnalkalpaaGreatDoor
namespace Go.Proofs.YtkdjkmnalkalpaaGreatDoor
open Go.RowKit
set_option maxRecDepth 100000

end Go.Proofs.YtkdjkmnalkalpaaGreatDoor
namespace Go.Proofs.YtkdjkmnalkalpaaGreatDoor
open Go.RowKit
set_option maxRecDepth 100000

end Go.Proofs.YtkdjkmnalkalpaaGreatDoor
