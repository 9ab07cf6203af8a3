/- The reference's 'Scan'. Rows of frames, cut off anywhere. Plain numbers. -/
import Derived.Test.YtpfbiijcmmkjlaaDoorFrP
namespace Go.Proofs.YtpfbiijcmmkjlaaDoor.Fr
open Go.RowKit
set_option maxRecDepth 100000

theorem nextF_short {q : List Int} (h : q.length < 9 ∨ (q.length : Int) < numI q + 9) : nextF q = none := by
  unfold nextF sizeF
  rw [if_neg]
  rw [if_neg (by omega)]
  simp
theorem numI_take {q : List Int} {n : Nat} (hn : 4 ≤ n) : numI (q.take n) = numI q := by
  have e : ∀ i, i < 4 → (q.take n).getD i 0 = q.getD i 0 := fun i hi => by
    rw [List.getD_eq_getElem?_getD, List.getElem?_take_of_lt (by omega), List.getD_eq_getElem?_getD]
  rw [numI_is, numI_is, e 0 (by omega), e 1 (by omega), e 2 (by omega), e 3 (by omega)]
theorem nextF_ref {q : List Int} (hy : Byt q) {n : Nat} (hn : numI q + 9 = n) (hle : n ≤ q.length) :
    nextF q = if (decodeI (q.take n)).2.2 = 0 then some ((decodeI (q.take n)).1, (decodeI (q.take n)).2.1, n) else none := by
  have ⟨n0, n1⟩ := numI_bounds hy
  have hn9 : 9 ≤ n := by omega
  have htl : (q.take n).length = n := by rw [List.length_take]; omega
  have hti := numI_take (q := q) (n := n) (by omega)
  by_cases h8 : numI q ≤ 8192
  · have h1 : sizeF q = ((n : Int), true) := by unfold sizeF; rw [if_pos ⟨by omega, h8, by omega⟩, hn]
    have h2 : sizeF (q.take n) = ((n : Int), true) := by unfold sizeF; rw [hti, htl, if_pos ⟨by omega, h8, by omega⟩, hn]
    have h3 : decodeI (q.take n) = decI (q.take n) := by unfold decodeI; rw [h2, htl, if_pos ⟨rfl, rfl⟩]
    unfold nextF
    rw [h1, if_pos rfl, h3, Int.toNat_natCast]
  · have h1 : sizeF q = (0, false) := by unfold sizeF; rw [if_neg (by omega)]
    have h2 : sizeF (q.take n) = (0, false) := by unfold sizeF; rw [hti, htl, if_neg (by omega)]
    have h3 : decodeI (q.take n) = (0, [], 2) := by unfold decodeI; rw [h2, if_neg (by simp)]
    unfold nextF
    rw [h1, h3]; rfl
/-- The reference's frames in memory. -/
def cellsR (fs : List (Int × List Int)) : List Value := fs.flatMap fun t => [.int .i64 t.1, .string (strOfNums t.2)]
theorem cellsR_append (a b : List (Int × List Int)) : cellsR (a ++ b) = cellsR a ++ cellsR b := by unfold cellsR; rw [List.flatMap_append]
theorem cellsR_get : ∀ (xs : List (Int × List Int)) (i : Nat) (t : Int × List Int), xs[i]? = some t → (cellsR xs)[2 * i]? = some (.int .i64 t.1) ∧ (cellsR xs)[2 * i + 1]? = some (.string (strOfNums t.2))
  | [], _, _, h => by cases h
  | t :: xs, 0, t', h => by cases h; exact ⟨rfl, rfl⟩
  | t :: xs, i + 1, t', h => by
    have := cellsR_get xs i t' (by simpa using h)
    have e : cellsR (t :: xs) = .int .i64 t.1 :: .string (strOfNums t.2) :: cellsR xs := by unfold cellsR; rw [List.flatMap_cons]; rfl
    rw [e, show 2 * (i + 1) = 2 * i + 1 + 1 by omega]
    exact this
theorem ownsRow_keep {w w' : World} {base : Nat} {e : TypeId} {size n : Nat} {v : Value} {xs : List Value} (h : w.ownsRow base e size v n xs) (hb : Below w.heap.size w w') : w'.ownsRow base e size v n xs := by
  refine ⟨h.1, ?_⟩
  rcases h.2 with h1 | ⟨g, cap, cur, h1, h2, h3, h4⟩
  · exact .inl h1
  · refine .inr ⟨g, cap, cur, h1, h2, ?_, h4⟩
    rw [hb.block g ?_]
    · exact h3
    · by_cases k : g < w.heap.size
      · exact k
      · rw [Array.getElem?_eq_none (by omega)] at h3; cases h3
theorem ownsRow_slice {w : World} {base : Nat} {e : TypeId} {size n : Nat} {v : Value} {xs : List Value} (h : w.ownsRow base e size v n xs) : ∃ a c, v = .slice a n c := by
  rcases h.2 with ⟨rfl, h0⟩ | ⟨g, cap, cur, rfl, _⟩
  · exact ⟨none, 0, by rw [h0]⟩
  · exact ⟨_, _, rfl⟩
end Go.Proofs.YtpfbiijcmmkjlaaDoor.Fr
namespace Go.Proofs.YtpfbiijcmmkjlaaDoor.Fr
open Go.RowKit

/-- The bytes of the frames of these payloads, the kinds from the i-th on. -/
def rowF : Nat → List (List Int) → List Int
  | _, [] => []
  | i, p :: ps => frameI ((i % 9 : Nat) + 1) p ++ rowF (i + 1) ps
def framesF : Nat → List (List Int) → List (Int × List Int)
  | _, [] => []
  | i, p :: ps => (((i % 9 : Nat) + 1 : Int), p) :: framesF (i + 1) ps
theorem framesF_length : ∀ (ps : List (List Int)) (i : Nat), (framesF i ps).length = ps.length
  | [], _ => rfl
  | p :: ps, i => by rw [framesF, List.length_cons, framesF_length ps, List.length_cons]
theorem framesF_get : ∀ (ps : List (List Int)) (i t : Nat) (p : List Int), ps[t]? = some p → (framesF i ps)[t]? = some ((((i + t) % 9 : Nat) + 1 : Int), p)
  | [], _, _, _, h => by cases h
  | p :: ps, i, 0, q, h => by cases h; rfl
  | p :: ps, i, t + 1, q, h => by
    have := framesF_get ps (i + 1) t q (by simpa using h)
    rw [framesF, List.getElem?_cons_succ, this, show i + 1 + t = i + (t + 1) by omega]
theorem rowF_append : ∀ (ps qs : List (List Int)) (i : Nat), rowF i (ps ++ qs) = rowF i ps ++ rowF (i + ps.length) qs
  | [], qs, i => by simp [rowF]
  | p :: ps, qs, i => by
    rw [List.cons_append, rowF, rowF, rowF_append ps qs, List.append_assoc, List.length_cons, show i + 1 + ps.length = i + (ps.length + 1) by omega]
theorem rowF_take_succ (ps : List (List Int)) (t : Nat) (h : t < ps.length) : rowF 0 (ps.take (t + 1)) = rowF 0 (ps.take t) ++ frameI ((t % 9 : Nat) + 1) (ps.getD t []) := by
  rw [List.take_succ_eq_append_getElem h, rowF_append, List.length_take, Nat.zero_add, show min t ps.length = t by omega, List.getD_eq_getElem?_getD, List.getElem?_eq_getElem h]
  simp [rowF]
theorem rowF_len_succ (ps : List (List Int)) (t : Nat) (h : t < ps.length) : (rowF 0 (ps.take (t + 1))).length = (rowF 0 (ps.take t)).length + (ps.getD t []).length + 9 := by
  rw [rowF_take_succ ps t h, List.length_append, frameI_length]; omega
theorem rowF_le : ∀ (ps : List (List Int)) (i : Nat), ps.flatten.length + 9 * ps.length = (rowF i ps).length
  | [], _ => rfl
  | p :: ps, i => by
    rw [rowF, List.length_append, frameI_length, List.flatten_cons, List.length_append, List.length_cons, ← rowF_le ps (i + 1)]; omega
/-- Payloads that may be written. -/
def Fit (ps : List (List Int)) : Prop := ∀ p ∈ ps, Byt p ∧ p.length ≤ 8192
theorem rowF_byt : ∀ {ps : List (List Int)} (i : Nat), Fit ps → Byt (rowF i ps)
  | [], _, _ => Byt.nil
  | p :: ps, i, h => (frameI_byt (by omega) (by omega) (h p (by simp)).1).append (rowF_byt (i + 1) fun q hq => h q (by simp [hq]))
theorem nextF_frame {k : Int} {p x : List Int} (k0 : 1 ≤ k) (k1 : k ≤ 9) (hy : Byt p) (hl : p.length ≤ 8192) (hx : Byt x) : nextF (frameI k p ++ x) = some (k, p, p.length + 9) := by
  have hlen := frameI_length k p
  have hn : numI (frameI k p ++ x) = p.length := by
    unfold frameI
    rw [List.append_assoc]
    exact numI_four _ (by omega) (by omega) _
  rw [nextF_ref ((frameI_byt k0 k1 hy).append hx) (n := p.length + 9) (by rw [hn]; omega) (by rw [List.length_append]; omega)]
  rw [List.take_append_of_le_length (by omega), List.take_of_length_le (by omega), decodeI_frame k0 k1 hy hl, if_pos rfl]
theorem nextF_cut {k : Int} {p : List Int} {c : Nat} (hl : p.length ≤ 8192) (hc : c < p.length + 9) : nextF ((frameI k p).take c) = none := by
  have hlen := frameI_length k p
  by_cases h9 : c < 9
  · exact nextF_short (.inl (by rw [List.length_take]; omega))
  · refine nextF_short (.inr ?_)
    rw [numI_take (by omega), List.length_take]
    have hn : numI (frameI k p) = p.length := numI_four _ (by omega) (by omega) _
    rw [hn]; omega
/-- The front of a row that is cut off: the frames that stand whole ahead of the cut. -/
theorem row_cut : ∀ (ps : List (List Int)) (i c : Nat), Fit ps → ∃ j, j ≤ ps.length ∧ Scanned ((rowF i ps).take c) (framesF i (ps.take j)) (rowF i (ps.take j)).length ∧
    ∀ t, t < ps.length → ((rowF i (ps.take (t + 1))).length ≤ c ↔ t < j)
  | [], i, c, _ => ⟨0, Nat.le_refl _, by
      show Scanned (List.take c []) [] 0
      rw [List.take_nil]
      exact .stop (nextF_short (.inl (by simp))), fun t ht => by simp at ht⟩
  | p :: ps, i, c, h => by
    have hp := h p (by simp)
    have hps : Fit ps := fun q hq => h q (by simp [hq])
    have hlen := frameI_length ((i % 9 : Nat) + 1) p
    have k0 : (1 : Int) ≤ (i % 9 : Nat) + 1 := by omega
    have k1 : ((i % 9 : Nat) : Int) + 1 ≤ 9 := by omega
    by_cases hc : p.length + 9 ≤ c
    · obtain ⟨j, hj, hs, ht⟩ := row_cut ps (i + 1) (c - (p.length + 9)) hps
      refine ⟨j + 1, by rw [List.length_cons]; omega, ?_, fun t htl => ?_⟩
      · rw [List.take_succ_cons, rowF, rowF, framesF, List.take_append, List.take_of_length_le (by omega), hlen, List.length_append, hlen]
        have hx : Byt ((rowF (i + 1) ps).take (c - (p.length + 9))) := (rowF_byt (i + 1) hps).take _
        exact .step (nextF_frame k0 k1 hp.1 hp.2 hx) (by
          rw [List.drop_append_of_le_length (by omega), List.drop_of_length_le (by omega)]
          exact hs)
      · cases t with
        | zero =>
          simp only [List.take_succ_cons, List.take_zero, rowF, List.append_nil]
          constructor
          · intro _; omega
          · intro _; omega
        | succ t =>
          rw [List.take_succ_cons, rowF, List.length_append, hlen]
          have := ht t (by simpa using htl)
          constructor
          · intro h1
            have := this.1 (by omega)
            omega
          · intro h1
            have := this.2 (by omega)
            omega
    · refine ⟨0, Nat.zero_le _, ?_, fun t htl => ?_⟩
      · show Scanned ((frameI ((i % 9 : Nat) + 1) p ++ rowF (i + 1) ps).take c) [] 0
        rw [List.take_append_of_le_length (by omega)]
        exact .stop (nextF_cut hp.2 (by omega))
      · rw [List.take_succ_cons, rowF, List.length_append, hlen]
        constructor
        · intro h1; omega
        · intro h1; omega
end Go.Proofs.YtpfbiijcmmkjlaaDoor.Fr
