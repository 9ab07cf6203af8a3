/- Package manifest: a range over bytes' lines, as a statement. -/
import Derived.Test.YtkdjkmnalkalpaaGreatDoorMfL
namespace Go.Proofs.YtkdjkmnalkalpaaGreatDoor
open Go.RowKit Go.Shelf
set_option maxRecDepth 100000

def lineP (B : Nat) (K : Nat → Prop) (I Ix : List (List Int) → World → Prop) (pre : List (List Int)) (W : World) : Exit → Act → World → Prop
  | .normal, _, W' => KeepsFrom B W W' ∧ (∀ k, K k → W'.heap[k]? = W.heap[k]?) ∧ I pre W'
  | .ret, _, W' => KeepsFrom B W W' ∧ Ix pre W'
  | _, _, _ => False
theorem lines_range {g : Operand} {pt : Tmp} {assign body : Code} {Q : Exit → Act → World → Prop} {a : Act} {w : World} (n Bs Be B0 eb : Nat) (hn : 4 ≤ n) (K : Nat → Prop) (q : List Int) (hq : Fr.Byt q) (hql : q.length < 9223372036854775807)
    (hg : a.eval g = .func (.func 219) #[] #[.pointer (some ⟨Be, 0, none⟩), .pointer (some ⟨Bs, 0, none⟩), .pointer (some ⟨B0, 0, none⟩)])
    (sv : Value) (hS : SeqAt K Bs Be B0 eb w sv q) (hK : ∀ k, K k → k < w.heap.size)
    (I Ix : List (List Int) → World → Prop) (hI : OwnFrom w.heap.size I) (hIx : OwnFrom w.heap.size Ix) (hIs : ∀ pre W v, I pre W → I pre (W.setCell ⟨Bs, 0, none⟩ v)) (h0 : I [] w) (a₁ : Value → Act)
    (hassign : ∀ (l : Nat) (u : Value) (W : World) (Kc : Act → World → Prop), Kc (a₁ u) W → assign.wpIn (Fence.wide.inRound l) (n - 1 - 1) Tryz.prog (Exit.then Kc (fun _ _ _ => False)) { tmps := a.tmps.setIfInBounds pt u, defers := [] } W)
    (hbody : ∀ (l : Nat) (pre : List (List Int)) (x : List Int) (rest : List (List Int)) (u : Value) (W : World), cutP q = pre ++ x :: rest → PieceV K Bs W u x → I pre W →
      body.wpIn (Fence.wide.inRound l) (n - 1 - 1) Tryz.prog (lineP w.heap.size K I Ix (pre ++ [x]) W) (a₁ u) W)
    (hdone : ∀ (D : Nat) (W : World), w.heap.size ≤ D → I (cutP q) W → W.heap[D]? = some (.deferred (some [])) → Q .normal { a with defers := { target := .collected D, args := #[] } :: a.defers } W)
    (hstop : ∀ (D : Nat) (pre : List (List Int)) (W : World), w.heap.size ≤ D → pre <+: cutP q → Ix pre W → W.heap[D]? = some (.deferred (some [])) → Code.ret.wpIn Fence.wide n Tryz.prog Q { a with defers := { target := .collected D, args := #[] } :: a.defers } W) :
    (Code.rangeFunc g #[pt] assign body).wpIn Fence.wide n Tryz.prog Q a w := by
  refine wpIn_rangeFunc fun fn hfn => ?_
  -- the loop's record, in each of its states
  let rc : LoopState → Option Code → Loop := fun st pe => { state := st, pending := pe, fn, tmps := a.tmps, params := #[pt], assign, body, defers := w.heap.size }
  let D := w.heap.size
  let L := w.heap.size + 1
  let J : List (List Int) → World → Prop := fun pre W => I pre W ∧ W.heap[L]? = some (.loop (rc .ready none)) ∧ W.heap[D]? = some (.deferred (some []))
  let Jx : List (List Int) → World → Prop := fun pre W => Ix pre W ∧ W.heap[L]? = some (.loop (rc .done (some .ret))) ∧ W.heap[D]? = some (.deferred (some []))
  let W0 := w.alloc (.deferred (some []))
  let W1 := W0.alloc (.loop (rc .ready none))
  have z0 : W0.heap.size = L := World.size_alloc ..
  have hBs : Bs < D := hK _ hS.ks
  have low : ∀ k, k < D → W1.heap[k]? = w.heap[k]? := fun k hk => (Below.heap_alloc W0 _ k (by rw [z0]; exact Nat.lt_succ_of_lt hk)).trans (Below.heap_alloc w _ k hk)
  have hL : W1.heap[L]? = some (.loop (rc .ready none)) := by rw [← z0]; exact World.alloc_heap_new W0 _
  have hD : W1.heap[D]? = some (.deferred (some [])) := (Below.heap_alloc W0 _ D (by rw [z0]; exact Nat.lt_succ_self _)).trans (World.alloc_heap_new w _)
  refine ⟨L, [{ target := .collected D, args := #[] }], W1, { target := .fn (.func 219) #[.pointer (some ⟨Be, 0, none⟩), .pointer (some ⟨Bs, 0, none⟩), .pointer (some ⟨B0, 0, none⟩)], args := #[.func (.yield L) #[] #[]] }, W1, 219,
    #[.func (.yield L) #[] #[], .pointer (some ⟨Be, 0, none⟩), .pointer (some ⟨Bs, 0, none⟩), .pointer (some ⟨B0, 0, none⟩)], W1, run_enterLoop_outer _ _ _ _ _, ?_, fun _ _ => trivial, ?_, fun _ => by omega, ?_⟩
  · simp only [resolve, hg]
    simp [go_sem]
  · simp [invoke, go_sem]
  · have other : ∀ (W : World) (st : LoopState) (pe : Option Code) (k : Nat), k ≠ L → (W.putObj L (.loop (rc st pe))).heap[k]? = W.heap[k]? := fun W st pe k hk => World.putObj_heap_other hk
    have turn : ∀ (W : World) (o : Loop) (st : LoopState) (pe : Option Code), W.heap[L]? = some (.loop o) → W.heap[D]? = some (.deferred (some [])) →
        (W.putObj L (.loop (rc st pe))).heap[L]? = some (.loop (rc st pe)) ∧ (W.putObj L (.loop (rc st pe))).heap[D]? = some (.deferred (some [])) := fun W o st pe h k =>
      ⟨World.putObj_heap_same (Array.getElem?_eq_some_iff.1 h).1, (other W st pe D (Nat.ne_of_lt (Nat.lt_succ_self _))).trans k⟩
    have hYield : ∀ pre x rest u W, J pre W → cutP q = pre ++ x :: rest → PieceV K Bs W u x → YieldAt Fence.wide (n - 1 - 1) Tryz.prog L #[u] W fun e W' =>
        (e = .returned (.bool true) ∧ J (pre ++ [x]) W' ∧ ∀ k, K k → W'.heap[k]? = W.heap[k]?) ∨ (e = .returned (.bool false) ∧ Jx (pre ++ [x]) W') := by
      rintro pre x rest u W ⟨hi, hl, hd⟩ hx hu
      refine ⟨fn, _, assign, body, run_yield hl rfl, roundIn_of_wpIn hfn ?_⟩
      have ht : Array.foldl (fun (tmps : Array Value) (x : Tmp × Value) => match x with | (t, a) => tmps.setIfInBounds t a) (rc .ready none).tmps ((rc .ready none).params.zip #[u]) = a.tmps.setIfInBounds pt u := by simp [rc]
      rw [ht]
      refine hassign L u W _ ?_
      refine ⟨_, run_beginRound hl rfl, ?_⟩
      obtain ⟨hl2, hd2⟩ := turn W _ .busy none hl hd
      have hk2 : ∀ k, K k → (W.putObj L (.loop (rc .busy none))).heap[k]? = W.heap[k]? := fun k hk => other W _ _ k (Nat.ne_of_lt (Nat.lt_succ_of_lt (hK k hk)))
      refine wpIn_mono (hbody L pre x rest u _ hx (hu.to fun k h _ => hk2 k h) (hI.putObj _ hi (Nat.le_succ _) hl rfl)) ?_
      intro e a3 W3 hp
      cases e with
      | normal =>
        obtain ⟨hk3, hkk, hi3⟩ := hp
        have hl3 := hk3.same L _ (Nat.le_succ _) hl2 rfl
        have hd3 := hk3.same D _ (Nat.le_refl _) hd2 rfl
        obtain ⟨hl4, hd4⟩ := turn W3 _ .ready none hl3 hd3
        exact ⟨_, _, run_endRound none hl3, .inl ⟨rfl, ⟨hI.putObj _ hi3 (Nat.le_succ _) hl3 rfl, hl4, hd4⟩, fun k hk => (other W3 .ready none k (Nat.ne_of_lt (Nat.lt_succ_of_lt (hK k hk)))).trans ((hkk k hk).trans (hk2 k hk))⟩⟩
      | ret =>
        obtain ⟨hk3, hi3⟩ := hp
        have hl3 := hk3.same L _ (Nat.le_succ _) hl2 rfl
        have hd3 := hk3.same D _ (Nat.le_refl _) hd2 rfl
        obtain ⟨hl4, hd4⟩ := turn W3 _ .done (some .ret) hl3 hd3
        exact ⟨_, _, run_endRound (some .ret) hl3, .inr ⟨rfl, hIx.putObj _ hi3 (Nat.le_succ _) hl3 rfl, hl4, hd4⟩⟩
      | exit id => exact hp.elim
      | goto t => exact hp.elim
      | panic c => exact hp.elim
      | outgrown => exact hp.elim
    have hset : ∀ (W : World) (v : Value) (k : Nat), D ≤ k → (W.setCell ⟨Bs, 0, none⟩ v).heap[k]? = W.heap[k]? := fun W v k hk => Below.heap_setCell W ⟨Bs, 0, none⟩ v k (fun e => by have : k = Bs := e; omega)
    refine (seq_in (n - 1) L Bs Be B0 eb (by omega) K q hq hql J Jx (fun pre W v h => ⟨hIs pre W v h.1, (hset W v L (Nat.le_succ _)).trans h.2.1, (hset W v D (Nat.le_refl _)).trans h.2.2⟩) hYield W1 sv (hS.to fun k hk => low k (hK k hk))
      ⟨hI.alloc _ (hI.alloc _ h0), hL, hD⟩).mono ?_
    rintro e W2 ⟨⟨v, rfl⟩, ⟨hi, hl, hd⟩ | ⟨pre, hp, hi, hl, hd⟩⟩
    · exact ⟨none, _, run_endLoop hl (by simp [rc]), hdone D _ (Nat.le_refl _) (hI.putObj _ hi (Nat.le_succ _) hl rfl) (other W2 .exhausted none D (Nat.ne_of_lt (Nat.lt_succ_self _)) |>.trans hd)⟩
    · exact ⟨some .ret, _, run_endLoop hl (by simp [rc]), hstop D pre _ (Nat.le_refl _) hp (hIx.putObj _ hi (Nat.le_succ _) hl rfl) (other W2 .exhausted (some .ret) D (Nat.ne_of_lt (Nat.lt_succ_self _)) |>.trans hd)⟩
end Go.Proofs.YtkdjkmnalkalpaaGreatDoor
