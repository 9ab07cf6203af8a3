/- Rows of frames: what the front is; frames in memory. -/
import Derived.Test.YteccdbkgeomjeaaFrN
namespace Go.Proofs.Yteccdbkgeomjeaa
open Go.RowKit

/-- The frame that bytes begin with: kind, payload, size. -/
def nextF (p : List Int) : Option (Int × List Int × Nat) :=
  if (sizeF p).2 = true then if (decI (p.take (sizeF p).1.toNat)).2.2 = 0 then some ((decI (p.take (sizeF p).1.toNat)).1, (decI (p.take (sizeF p).1.toNat)).2.1, (sizeF p).1.toNat) else none else none
/-- The frames of the front of bytes, and how many bytes it has. -/
inductive Scanned : List Int → List (Int × List Int) → Nat → Prop
  | stop {p : List Int} : nextF p = none → Scanned p [] 0
  | step {p : List Int} {k : Int} {q : List Int} {n m : Nat} {fs : List (Int × List Int)} : nextF p = some (k, q, n) → Scanned (p.drop n) fs m → Scanned p ((k, q) :: fs) (n + m)
theorem Scanned.same {p : List Int} {fs : List (Int × List Int)} {m : Nat} (h : Scanned p fs m) : ∀ {fs' : List (Int × List Int)} {m' : Nat}, Scanned p fs' m' → fs = fs' ∧ m = m' := by
  induction h with
  | stop h =>
    intro fs' m' h'
    cases h' with
    | stop => exact ⟨rfl, rfl⟩
    | step g _ => rw [h] at g; cases g
  | step h _ ih =>
    intro fs' m' h'
    cases h' with
    | stop g => rw [h] at g; cases g
    | step g k =>
      rw [h] at g
      injection g with g
      injection g with g1 g
      injection g with g2 g3
      subst g1 g2 g3
      obtain ⟨rfl, rfl⟩ := ih k
      exact ⟨rfl, rfl⟩
theorem sizeF_true {p : List Int} (hy : Byt p) (h : (sizeF p).2 = true) : ∃ n : Nat, sizeF p = ((n : Int), true) ∧ 9 ≤ n ∧ n ≤ p.length ∧ n ≤ 8201 ∧ numI p + 9 = n := by
  have h0 := (numI_bounds hy).1
  unfold sizeF at *
  split at h
  · rename_i hh
    rw [if_pos hh]
    exact ⟨(numI p + 9).toNat, by rw [Int.toNat_of_nonneg (by omega)], by omega, by omega, by omega, by omega⟩
  · cases h

theorem nextF_size {p : List Int} (hy : Byt p) {k : Int} {q : List Int} {n : Nat} (h : nextF p = some (k, q, n)) : 9 ≤ n ∧ n ≤ p.length := by
  unfold nextF at h
  by_cases hw : (sizeF p).2 = true
  · obtain ⟨m, hm, m9, ml, _, _⟩ := sizeF_true hy hw
    rw [hm, if_pos rfl, Int.toNat_natCast] at h
    split at h
    · injection h with h
      injection h with _ h
      injection h with _ h
      omega
    · cases h
  · rw [if_neg hw] at h; cases h
theorem Scanned.len {p : List Int} {fs : List (Int × List Int)} {m : Nat} (h : Scanned p fs m) : Byt p → 9 * fs.length ≤ m ∧ m ≤ p.length := by
  induction h with
  | stop _ => intro _; simp
  | step h _ ih =>
    intro hy
    have h1 := nextF_size hy h
    have h2 := ih (hy.drop _)
    rw [List.length_drop] at h2
    rw [List.length_cons]
    omega

/-- Frames in memory: kind, payload, the payload's value. -/
def cellsF (xs : List (Int × List Int × Value)) : List Value := xs.flatMap fun t => [.int .i64 t.1, t.2.2]
theorem cellsF_append (a b : List (Int × List Int × Value)) : cellsF (a ++ b) = cellsF a ++ cellsF b := by unfold cellsF; rw [List.flatMap_append]
theorem cellsF_length : ∀ xs : List (Int × List Int × Value), (cellsF xs).length = xs.length * 2
  | [] => rfl
  | t :: xs => by
    have := cellsF_length xs
    unfold cellsF at *
    rw [List.flatMap_cons, List.length_append, this, List.length_cons]; simp; omega
theorem cellsF_get : ∀ (xs : List (Int × List Int × Value)) (i : Nat) (t : Int × List Int × Value), xs[i]? = some t → (cellsF xs)[2 * i]? = some (.int .i64 t.1) ∧ (cellsF xs)[2 * i + 1]? = some t.2.2
  | [], _, _, h => by cases h
  | t :: xs, 0, t', h => by cases h; exact ⟨rfl, rfl⟩
  | t :: xs, i + 1, t', h => by
    have := cellsF_get xs i t' (by simpa using h)
    have e : cellsF (t :: xs) = .int .i64 t.1 :: t.2.2 :: cellsF xs := by unfold cellsF; rw [List.flatMap_cons]; rfl
    rw [e, show 2 * (i + 1) = 2 * i + 1 + 1 by omega]
    exact this
structure Frs (w : World) (base : Nat) (v : Value) (xs : List (Int × List Int × Value)) : Prop where
  own : w.ownsRow base 37 2 v xs.length (cellsF xs)
  pay : ∀ t ∈ xs, OwnB w base t.2.2 t.2.1
theorem frameInfo : (Try.prog.info? 37).map (fun i => (i.zero, i.size, i.bytes)) = some (some (.agg #[.int .i64 0, .slice none 0 0]), 2, 32) := by kernel_rfl
theorem Frs.nil (w : World) (base : Nat) : Frs w base (.slice none 0 0) [] := ⟨World.ownsRow_nil _ _ _ _, fun t ht => by cases ht⟩
theorem Frs.keep {w w' : World} {base : Nat} {v : Value} {xs : List (Int × List Int × Value)} (h : Frs w base v xs) (hb : Below w.heap.size w w') : Frs w' base v xs := by
  refine ⟨⟨h.own.1, ?_⟩, fun t ht => (h.pay t ht).keep hb⟩
  rcases h.own.2 with h1 | ⟨g, cap, cur, h1, h2, h3, h4⟩
  · exact .inl h1
  · refine .inr ⟨g, cap, cur, h1, h2, ?_, h4⟩
    rw [hb.block g ?_]
    · exact h3
    · by_cases k : g < w.heap.size
      · exact k
      · rw [Array.getElem?_eq_none (by omega)] at h3; cases h3
/-- Bytes of one's own lie elsewhere than frames of one's own. -/
theorem OwnB.grownF {w w' : World} {base : Nat} {u v : Value} {p : List Int} {n : Nat} {cs : List Value} (h : OwnB w base u p) (hv : w.ownsRow base 37 2 v n cs) (hg : w.grownBy w' v.ownBlock) : OwnB w' base u p := by
  refine ⟨h.1, ?_⟩
  rcases h.2 with h1 | ⟨g, cap, cur, h1, h2, h3, h4⟩
  · exact .inl h1
  · refine .inr ⟨g, cap, cur, h1, h2, ?_, h4⟩
    rw [hg.block g ?_ ?_]
    · exact h3
    · by_cases k : g < w.heap.size
      · exact k
      · rw [Array.getElem?_eq_none (by omega)] at h3; cases h3
    · intro e
      rcases hv.2 with ⟨hn, _⟩ | ⟨x, cap', cur', hx, _, hh, _⟩
      · rw [hn] at e; cases e
      · rw [hx] at e
        have : g = x := Option.some.inj e
        subst this
        rw [h3] at hh
        injection hh with hh
        injection hh with _ hh
        cases hh
end Go.Proofs.Yteccdbkgeomjeaa
