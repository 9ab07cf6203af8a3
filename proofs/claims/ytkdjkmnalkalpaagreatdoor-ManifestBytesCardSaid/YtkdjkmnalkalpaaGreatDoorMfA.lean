/- What a row of lines is cut into at each byte 10; the bytes of a manifest. Plain; nothing of the program. -/
import Derived.Test.YtkdjkmnalkalpaaGreatDoorFrB
import Derived.Lib.IndexLaws
import Derived.Lib.AtoiAll
import Derived.Laws.BytesArg
import Derived.Lib.Bytes
namespace Go.Proofs.YtkdjkmnalkalpaaGreatDoor
open Go.RowKit

def cutP : List Int → List (List Int)
  | [] => [[]]
  | x :: r => if x = 10 then [] :: cutP r else match cutP r with
    | h :: t => (x :: h) :: t
    | [] => [[x]]
theorem cutP_ne : ∀ r : List Int, cutP r ≠ []
  | [] => by simp [cutP]
  | x :: r => by
    unfold cutP
    split
    · simp
    · split <;> simp
theorem cutP_none : ∀ {r : List Int}, (∀ x ∈ r, x ≠ 10) → cutP r = [r]
  | [], _ => rfl
  | x :: r, h => by
    unfold cutP
    rw [if_neg (h x (by simp)), cutP_none fun y hy => h y (by simp [hy])]
theorem cutP_at : ∀ {r : List Int} {i : Nat}, r[i]? = some 10 → (∀ k, k < i → r[k]? ≠ some 10) → cutP r = r.take i :: cutP (r.drop (i + 1))
  | [], i, h, _ => by simp at h
  | x :: r, 0, h, _ => by
    simp at h
    subst h
    simp [cutP]
  | x :: r, i + 1, h, hk => by
    have hx : x ≠ 10 := fun e => hk 0 (by omega) (by simp [e])
    have ih := cutP_at (r := r) (i := i) (by simpa using h) (fun k hki => by have := hk (k + 1) (by omega); simpa using this)
    rw [cutP, if_neg hx, ih]
    simp
theorem cutP_line {p : List Int} (h : ∀ x ∈ p, x ≠ 10) (r : List Int) : cutP (p ++ 10 :: r) = p :: cutP r := by
  have := cutP_at (r := p ++ 10 :: r) (i := p.length) (by simp) (fun k hk e => by
    rw [List.getElem?_append_left hk] at e
    exact h 10 (List.mem_of_getElem? e) rfl)
  rw [this]
  simp
theorem cutP_length : ∀ r : List Int, (cutP r).length ≤ r.length + 1
  | [] => by simp [cutP]
  | x :: r => by
    have ih := cutP_length r
    unfold cutP
    split
    · simp; omega
    · split
      · rename_i h; rw [h] at ih; simp at ih ⊢; omega
      · simp
theorem cutP_mem : ∀ (r : List Int) (y : List Int), y ∈ cutP r → y.length ≤ r.length
  | [], y, h => by simp [cutP] at h; subst h; simp
  | x :: r, y, h => by
    have ih := cutP_mem r
    unfold cutP at h
    split at h
    · rcases List.mem_cons.1 h with rfl | h
      · simp
      · have := ih y h; simp; omega
    · split at h
      · rename_i h' t e
        rcases List.mem_cons.1 h with rfl | h
        · have := ih h' (by rw [e]; simp); simp; omega
        · have := ih y (by rw [e]; simp [h]); simp; omega
      · simp at h; subst h; simp
def trimP (p : List Int) : List Int := if p.getLast? = some 10 then p.dropLast else p
def atoiP (x : List Int) : Option Int := match Lib.atoiAll (Lib.bytesOf x) with
  | .ok v => some v
  | _ => none
def numsP : List (List Int) → Option (List Int)
  | [] => some []
  | x :: r => match atoiP x, numsP r with
    | some v, some l => some (v :: l)
    | _, _ => none
theorem numsP_snoc {l : List (List Int)} {x : List Int} {ns : List Int} {v : Int} (h : numsP l = some ns) (hv : atoiP x = some v) : numsP (l ++ [x]) = some (ns ++ [v]) := by
  induction l generalizing ns with
  | nil => simp [numsP] at h; subst h; simp [numsP, hv]
  | cons y l ih =>
    rw [List.cons_append]
    unfold numsP at h ⊢
    cases hy : atoiP y with
    | none => rw [hy] at h; simp at h
    | some a =>
      cases hl : numsP l with
      | none => rw [hy, hl] at h; simp at h
      | some m =>
        rw [hy, hl] at h
        simp at h
        subst h
        rw [ih hl]
        rfl
theorem numsP_bad {l : List (List Int)} {x : List Int} (h : x ∈ l) (hv : atoiP x = none) : numsP l = none := by
  induction l with
  | nil => cases h
  | cons y l ih =>
    unfold numsP
    rcases List.mem_cons.1 h with rfl | h
    · rw [hv]
    · rw [ih h]
      cases atoiP y <;> rfl
theorem numsP_length {l : List (List Int)} {ns : List Int} (h : numsP l = some ns) : ns.length = l.length := by
  induction l generalizing ns with
  | nil => simp [numsP] at h; subst h; rfl
  | cons y l ih =>
    unfold numsP at h
    cases hy : atoiP y with
    | none => rw [hy] at h; simp at h
    | some a =>
      cases hl : numsP l with
      | none => rw [hy, hl] at h; simp at h
      | some m =>
        rw [hy, hl] at h
        simp at h
        subst h
        simp [ih hl]
theorem indexByte_p {r : List Int} (hb : Fr.Byt r) : ((∀ x ∈ r, x ≠ 10) ∧ Lib.indexByte (Lib.bytesOf r) (10 : Int).toNat.toUInt8 = -1) ∨ ∃ i : Nat, i < r.length ∧ r[i]? = some 10 ∧ (∀ k, k < i → r[k]? ≠ some 10) ∧ Lib.indexByte (Lib.bytesOf r) (10 : Int).toNat.toUInt8 = i := by
  have hlen : (Lib.bytesOf r).length = r.length := by simp [Lib.bytesOf]
  have hge := Lib.indexByte_ge (Lib.bytesOf r) (10 : Int).toNat.toUInt8
  have key : ∀ k : Nat, (Lib.bytesOf r)[k]? = some ((10 : Int).toNat.toUInt8) ↔ r[k]? = some 10 := by
    intro k
    unfold Lib.bytesOf
    rw [List.getElem?_map]
    cases hr : r[k]? with
    | none => simp
    | some y =>
      have hy := hb y (List.mem_of_getElem? hr)
      simp only [Option.map_some, Option.some.injEq]
      constructor
      · intro e
        have e2 := congrArg UInt8.toNat e
        simp at e2
        omega
      · rintro rfl; rfl
  by_cases h : Lib.indexByte (Lib.bytesOf r) (10 : Int).toNat.toUInt8 = -1
  · refine .inl ⟨fun x hx e => ?_, h⟩
    subst e
    obtain ⟨k, hk, e⟩ := List.getElem_of_mem hx
    exact Lib.indexByte_none h k ((key k).2 (by rw [List.getElem?_eq_getElem hk, e]))
  · obtain ⟨i, hi⟩ : ∃ i : Nat, Lib.indexByte (Lib.bytesOf r) (10 : Int).toNat.toUInt8 = i := ⟨(Lib.indexByte (Lib.bytesOf r) (10 : Int).toNat.toUInt8).toNat, by omega⟩
    obtain ⟨h1, h2⟩ := Lib.indexByte_some hi
    have h3 := (key i).1 h1
    refine .inr ⟨i, (List.getElem?_eq_some_iff.1 h3).1, h3, fun k hk e => h2 k hk ((key k).2 e), hi⟩
end Go.Proofs.YtkdjkmnalkalpaaGreatDoor
