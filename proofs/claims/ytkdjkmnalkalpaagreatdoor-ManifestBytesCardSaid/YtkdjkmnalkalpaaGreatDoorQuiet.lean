/- Words on memory: a block known whole as a list of cells; a world that has changed at one block alone. Plain; nothing of the program. Laws on arrays that are values. Plain; nothing of the program. A region that draws its order: its first n operations only read or call quietly, the rest waits for all of them: one walk in the text's order serves every order. Plain; nothing of the program. Single steps of a quiet walk, in any class of worlds: a whole array read, a conversion, a call. Plain; nothing of the program. -/
import Derived.WalkKit
import Derived.Deep.MidRow
import Derived.Deep.WholeRow
import Derived.Deep.QuietTactic
import Derived.Deep.DeepCutAuto
import Derived.Deep.CutBlock
import Derived.Deep.LoopGhost
import Derived.Deep.DeepFit
import Derived.StillTail
import Derived.BigQuiet
namespace Go.Proofs.YtkdjkmnalkalpaaGreatDoor
open Go.RowKit
set_option maxRecDepth 100000

def Blk (w : World) (g : Nat) (t : TypeId) (cs : List Value) : Prop := w.heap[g]? = some (.cells cs.toArray t (0, 0))
variable {w w' : World} {g : Nat} {t : TypeId} {cs : List Value}

theorem Blk.lt (h : Blk w g t cs) : g < w.heap.size := by
  by_cases k : g < w.heap.size
  · exact k
  · unfold Blk at h; rw [Array.getElem?_eq_none (by omega)] at h; cases h
theorem Blk.cell_eq (h : Blk w g t cs) (i : Nat) : w.cell? ⟨g, i, none⟩ = cs[i]? := by
  rw [cell_of_row w g i cs.toArray t (0, 0) h]; simp
theorem Blk.cell (h : Blk w g t cs) {i : Nat} {v : Value} (hv : cs[i]? = some v) : w.cell? ⟨g, i, none⟩ = some v := by rw [h.cell_eq, hv]
theorem Blk.frozen (h : Blk w g t cs) (i : Nat) : w.frozen? ⟨g, i, none⟩ = false := frozen_of_row w g i cs.toArray t h
theorem Blk.set (h : Blk w g t cs) (i : Nat) (v : Value) : Blk (w.setCell ⟨g, i, none⟩ v) g t (cs.set i v) := by
  have := heap_setCell_same w g i cs.toArray t v h
  simpa [Blk] using this
theorem Blk.set_other (h : Blk w g t cs) {a : Addr} (ha : g ≠ a.block) (v : Value) : Blk (w.setCell a v) g t cs := by
  unfold Blk; rw [heap_setCell_other w a g v ha]; exact h
theorem Blk.new (w : World) (t : TypeId) (cs : List Value) : Blk (w.alloc (.cells cs.toArray t)) w.heap.size t cs := heap_alloc_new w _
theorem Blk.alloc (h : Blk w g t cs) (o : Obj) : Blk (w.alloc o) g t cs := by
  unfold Blk; rw [Below.heap_alloc w o g h.lt]; exact h
theorem Blk.drew (h : Blk w g t cs) : Blk w.drew g t cs := h
theorem Blk.drewN (h : Blk w g t cs) (n : Nat) : Blk (w.drewN n) g t cs := h
theorem Blk.range (h : Blk w g t cs) (o : Nat) (sub : List Value) (hs : ∀ j v, sub[j]? = some v → cs[o + j]? = some v) : w.rangeAt g o sub :=
  fun j v hv => h.cell (hs j v hv)
theorem Blk.there (h : Blk w g t cs) (o n : Nat) (hn : o + n ≤ cs.length) : w.there g o n := fun j hj =>
  ⟨by rw [h.cell_eq]; simp; omega, h.frozen _⟩
structure But (B g : Nat) (w w' : World) : Prop where
  os : w'.os = w.os
  tape : w'.tape = w.tape
  output : w'.output = w.output
  size : w.heap.size ≤ w'.heap.size
  block : ∀ k, k < B → k ≠ g → w'.heap[k]? = w.heap[k]?
variable {B : Nat}
theorem But.refl (B g : Nat) (w : World) : But B g w w := ⟨rfl, rfl, rfl, Nat.le_refl _, fun _ _ _ => rfl⟩
theorem But.trans {a b c : World} (h : But B g a b) (k : But B g b c) : But B g a c :=
  ⟨k.os.trans h.os, k.tape.trans h.tape, k.output.trans h.output, Nat.le_trans h.size k.size, fun i hi hg => (k.block i hi hg).trans (h.block i hi hg)⟩
theorem But.mono {B' : Nat} (h : But B g w w') (hB : B' ≤ B) : But B' g w w' := ⟨h.os, h.tape, h.output, h.size, fun k hk => h.block k (by omega)⟩
theorem But.setCell {a : World} (h : But B g a w) {p : Addr} (hp : B ≤ p.block ∨ p.block = g) (u : Value) : But B g a (w.setCell p u) :=
  h.trans ⟨rfl, rfl, rfl, by simp [World.setCell], fun k hk hg => Below.heap_setCell _ _ _ _ (by omega)⟩
theorem Below.blk {t : TypeId} {cs : List Value} {k : Nat} (h : Below B w w') (hk : k < B) (b : Blk w k t cs) : Blk w' k t cs := by
  unfold Blk; rw [h.block k hk]; exact b
theorem Below.drewN {a : World} (h : Below B a w) (n : Nat) : Below B a (w.drewN n) := ⟨h.os, h.tape, h.output, h.size, h.block⟩

theorem Below.setRow {a : World} (h : Below B a w) {k : Nat} (hk : B ≤ k) (cs : Array Value) : Below B a (w.setRow k cs) :=
  h.trans ⟨rfl, rfl, rfl, by simp [World.setRow], fun i hi => by
    unfold World.setRow
    simp only [Array.getElem?_modify]
    rw [if_neg (by omega)]⟩
theorem Blk.setRow {cs' : List Value} (h : Blk w g t cs) : Blk (w.setRow g cs'.toArray) g t cs' := setRow_heap w g _ _ t (0, 0) h
def fill (n : Nat) (z : Value) (vs : List Value) : List Value := vs ++ List.replicate (n - vs.length) z
theorem fill_set {n : Nat} {z v : Value} {vs : List Value} (h : vs.length < n) : (fill n z vs).set vs.length v = fill n z (vs ++ [v]) := by
  unfold fill
  rw [List.set_append_right _ _ (Nat.le_refl _), Nat.sub_self, show n - vs.length = (n - (vs ++ [v]).length) + 1 by simp; omega, List.replicate_succ]
  simp
theorem fill_next {n : Nat} {z : Value} {vs : List Value} (h : vs.length < n) : (fill n z vs)[vs.length]? = some z := by
  unfold fill; rw [List.getElem?_append_right (Nat.le_refl _), Nat.sub_self, show n - vs.length = (n - vs.length - 1) + 1 by omega, List.replicate_succ]; rfl
theorem fill_full {n : Nat} {z : Value} {vs : List Value} (h : vs.length = n) : fill n z vs = vs := by simp [fill, h]
theorem ones_int (k : IntKind) (l : List Int) : ∀ v ∈ l.map (Value.int k), v.oneCell' = true := by
  intro v hv; obtain ⟨x, _, rfl⟩ := List.mem_map.1 hv; rfl
end Go.Proofs.YtkdjkmnalkalpaaGreatDoor
namespace Go.Proofs.YtkdjkmnalkalpaaGreatDoor
open Go.RowKit
set_option maxRecDepth 100000
end Go.Proofs.YtkdjkmnalkalpaaGreatDoor
namespace Go.Proofs.YtkdjkmnalkalpaaGreatDoor
set_option maxRecDepth 100000
section
variable {P : Program} {md : Region.Mode}

theorem count_set : ∀ (l : List Bool) (i : Nat), l[i]? = some false → (l.set i true).count false + 1 = l.count false
  | [], _, h => by cases h
  | b :: l, 0, h => by
    have : b = false := by simpa using h
    subst this; simp
  | b :: l, i + 1, h => by
    have := count_set l i (by simpa using h)
    simp only [List.set_cons_succ, List.count_cons]
    omega
theorem count_zero : ∀ (l : List Bool) (i : Nat), l.count false = 0 → i < l.length → l[i]? = some true
  | b :: l, 0, h, _ => by
    cases b
    · simp at h
    · rfl
  | b :: l, i + 1, h, hi => by
    simp only [List.count_cons] at h
    have := count_zero l i (by omega) (by simpa using hi)
    simpa using this
theorem count_pos : ∀ (l : List Bool), l.count false ≠ 0 → ∃ i, i < l.length ∧ l[i]? = some false ∧ ∀ j, j < i → l[j]? = some true
  | [], h => absurd rfl h
  | b :: l, h => by
    cases b
    · exact ⟨0, by simp, rfl, fun j hj => by omega⟩
    · obtain ⟨i, hi, h1, h2⟩ := count_pos l (by simpa using h)
      refine ⟨i + 1, by simpa using hi, by simpa using h1, fun j hj => ?_⟩
      cases j with
      | zero => rfl
      | succ j => simpa using h2 j (by omega)

def headQ (Q : Exit → Act → World → Prop) (T : Act → World → Prop) : Exit → Act → World → Prop
  | .normal, a, w => T a w
  | e, a, w => Q e a w
theorem headQ_lets {Q : Exit → Act → World → Prop} {T : Act → World → Prop} (h : LetsOut (headQ Q T)) : LetsOut Q := h
theorem wp_headQ {o : Oper} {a : Act} {w : World} {K K' : Act → World → Prop} {Q : Exit → Act → World → Prop} {T : Act → World → Prop} (hK : ∀ a w, K a w → K' a w)
    (h : o.wp P a w K (headQ Q T)) : o.wp P a w K' Q := by
  unfold Oper.wp at *
  generalize (execOp a.eval o).run P w = r at *
  cases r with
  | ok n w' =>
    cases n with
    | value v => exact hK _ _ h
    | skip => exact hK _ _ h
    | defer d => exact hK _ _ h
    | enter f args =>
      refine Calls.mono (R := _) h fun e w'' he => ?_
      cases e with
      | returned v => exact hK _ _ he
      | panicked chain => exact he
      | outgrown => exact he
    | row row args => exact Rows.mono h fun v w'' he => hK _ _ he
    | _ => exact h
  | halt x w' =>
    cases x with
    | panic v => exact h
    | _ => exact h

def tailB (md : Region.Mode) (ops : Array Oper) (n : Nat) : Bool :=
  decide (n < ops.size) &&
  (List.range n).all (fun i => match ops[i]? with
    | some o => o.after.all (fun e => !Region.binds md e || decide (e.on < i)) && (match o.guard with | some (j, _) => decide (j < n) | none => true)
    | none => true) &&
  Region.sinkB md ops n && Region.chainB md ops n
structure TailOk (md : Region.Mode) (ops : Array Oper) (n : Nat) : Prop where
  le : n < ops.size
  low : ∀ i o, i < n → ops[i]? = some o → ∀ e ∈ o.after, Region.binds md e = true → e.on < i
  guard : ∀ i o j b, i < n → ops[i]? = some o → o.guard = some (j, b) → j < n
  sink : Region.sinkB md ops n = true
  chain : Region.chainB md ops n = true
theorem tailOk {ops : Array Oper} {n : Nat} (h : tailB md ops n = true) : TailOk md ops n := by
  unfold tailB at h
  simp only [Bool.and_eq_true, decide_eq_true_eq] at h
  obtain ⟨⟨⟨h1, h2⟩, h3⟩, h4⟩ := h
  rw [List.all_eq_true] at h2
  refine ⟨h1, fun i o hi ho e he hb => ?_, fun i o j b hi ho hg => ?_, h3, h4⟩
  · have := h2 i (List.mem_range.2 hi)
    simp only [ho, Bool.and_eq_true, Array.all_eq_true_iff_forall_mem] at this
    have h5 := this.1 e he
    simpa [hb] using h5
  · have := h2 i (List.mem_range.2 hi)
    simp only [ho, hg, Bool.and_eq_true, decide_eq_true_eq] at this
    exact this.2

variable {ops head : Array Oper} {n g : Nat} {Q : Exit → Act → World → Prop}
def fullL (ops : Array Oper) (n : Nat) : Array Bool := (List.replicate n true ++ List.replicate (ops.size - n) false).toArray

theorem wpAny_tail (ok : TailOk md ops n) (hh : ∀ i, i < n → head[i]? = ops[i]?) :
    ∀ (f : Nat) (lh listed : List Bool) (a : Act) (w : World), lh.length = n → listed = lh ++ List.replicate (ops.size - n) false → HeadInv md ops n listed.toArray → lh.count false = f →
    wpAny P md head (headQ Q fun a' w' => wpAny P md ops Q g (fullL ops n) a' w') f lh.toArray a w → wpAny P md ops Q (f + g) listed.toArray a w := by
  intro f
  induction f with
  | zero =>
    intro lh listed a w hl he hinv hc h
    have hall : lh = List.replicate n true := by
      apply List.ext_getElem?
      intro i
      by_cases hi : i < n
      · rw [count_zero lh i hc (by omega)]; simp [hi]
      · simp [List.getElem?_eq_none (show lh.length ≤ i by omega), hi]
    rw [he, hall, Nat.zero_add]
    exact h.2
  | succ f ih =>
    intro lh listed a w hl he hinv hc h
    obtain ⟨k, hk, hk1, hk2⟩ := count_pos lh (by omega)
    have hlen : listed.length = ops.size := by rw [he]; simp [hl]; have := ok.le; omega
    have hget : ∀ i, i < n → ∀ d, listed.toArray.getD i d = lh.toArray.getD i d := by
      intro i hi d
      have h1 : listed[i]? = lh[i]? := by rw [he, List.getElem?_append_left (by omega)]
      simp only [Array.getD_eq_getD_getElem?, List.getElem?_toArray, h1]
    -- what is ready is of the head
    have hready : ∀ i, i ∈ Region.ready md ops listed.toArray → i < n ∧ i ∈ Region.ready md head lh.toArray := by
      intro i hi
      obtain ⟨h1, o, ho, h2⟩ := mem_ready.1 hi
      have hin : i < n := by
        by_cases hin : i < n
        · exact hin
        · exact absurd hi (tail_waits ok.sink ok.chain ok.le hinv (n - k) k rfl (by omega) (by rw [hget k (by omega)]; simp [Array.getD_eq_getD_getElem?, hk1]) i (by omega))
      refine ⟨hin, mem_ready.2 ⟨by rw [← hget i hin]; exact h1, o, by rw [hh i hin]; exact ho, fun e he1 hb => ?_⟩⟩
      rw [← hget e.on (by have := ok.low i o hin ho e he1 hb; omega)]
      exact h2 e he1 hb
    have hne : Region.ready md ops listed.toArray ≠ [] := by
      intro h0
      have hks : k < ops.size := by have := ok.le; omega
      have : k ∈ Region.ready md ops listed.toArray := mem_ready.2 ⟨by rw [hget k (by omega)]; simp [Array.getD_eq_getD_getElem?, hk1], ops[k], Array.getElem?_eq_getElem hks, fun e he1 hb => by
        have hlt := ok.low k ops[k] (by omega) (Array.getElem?_eq_getElem hks) e he1 hb
        rw [hget e.on (by omega)]
        simp [Array.getD_eq_getD_getElem?, hk2 e.on hlt]⟩
      rw [h0] at this; cases this
    rw [show f + 1 + g = (f + g) + 1 by omega]
    refine ⟨fun h0 => absurd h0 hne, fun i hi => ?_⟩
    obtain ⟨hin, hir⟩ := hready i hi
    obtain ⟨h1, o, ho, _⟩ := mem_ready.1 hir
    have ho' : ops[i]? = some o := by rw [← hh i hin]; exact ho
    have hli : lh[i]? = some false := by
      have : i < lh.length := by omega
      simp only [Array.getD_eq_getD_getElem?, List.getElem?_toArray, List.getElem?_eq_getElem this, Option.getD_some] at h1
      rw [List.getElem?_eq_getElem this, h1]
    have hop := h.2 i hir
    have hnext : ∀ a' w', wpAny P md head (headQ Q fun a' w' => wpAny P md ops Q g (fullL ops n) a' w') f (lh.toArray.setIfInBounds i true) a' w' →
        wpAny P md ops Q (f + g) (listed.toArray.setIfInBounds i true) a' w' := by
      intro a' w' h'
      have := ih (lh.set i true) (listed.set i true) a' w' (by simp [hl]) (by rw [he, List.set_append_left _ _ (by omega)]) (by have := HeadInv.set hinv hi hin; simpa using this) (by have := count_set lh i hli; omega) (by simpa using h')
      simpa using this
    have hy : ∀ j, j < n → yielded head a.tmps j = yielded ops a.tmps j := fun j hj => by unfold yielded; rw [hh j hj]
    have hw : Region.wanted o (yielded head a.tmps) = Region.wanted o (yielded ops a.tmps) := by
      unfold Region.wanted
      cases hg : o.guard with
      | none => rfl
      | some p => obtain ⟨j, b⟩ := p; simp only [hy j (ok.guard i o j b hin ho' hg)]
    unfold wpOp at hop ⊢
    rw [ho] at hop
    rw [ho']
    simp only at hop ⊢
    rw [hw] at hop
    by_cases hwt : Region.wanted o (yielded ops a.tmps) = true
    · rw [if_pos hwt] at hop ⊢
      rcases hop with hop | ⟨hop1, hop2⟩
      · exact Or.inl (wp_headQ hnext hop)
      · exact Or.inr ⟨hop1, headQ_lets hop2⟩
    · rw [if_neg hwt] at hop ⊢
      exact hnext _ _ hop

theorem wp_region_quiet_tail {id : Nat} {a : Act} {w : World} {l : List Oper} (n : Nat) (hm : P.follows .mixedOrders = true)
    (hB : (tailB .any l.toArray n && Region.lexB .any (l.take n).toArray && Region.seqB .any l.toArray (l.length - n) n (fullL l.toArray n)) = true)
    (h : wpQuiet P (l.take n).toArray (fun w' => ∃ k, w' = w.drewN k) (fun a' => ∀ k, wpList P l.toArray Q (l.drop n) a' (w.drewN k)) (l.take n) a) : (Code.region id l.toArray true).wp P Q a w := by
  simp only [Bool.and_eq_true] at hB
  obtain ⟨⟨h1, h2⟩, h3⟩ := hB
  have ok := tailOk h1
  have hn : n ≤ l.length := by have := ok.le; simp at this; omega
  simp only [Region.lexB, Bool.and_eq_true] at h2
  have hsz : (l.take n).toArray.size = n := by simp [hn]
  have hq := wpAnyQ_lex (C := fun w' => ∃ k, w' = w.drewN k) (md := .any) h2.1 (l.take n) 0 (Array.replicate (l.take n).toArray.size false) a (by simp) (by simpa using h2.2) h
  have hx := wpAny_of_quiet (P := P) (Q' := headQ Q fun a' w' => wpAny P .any l.toArray Q (l.length - n) (fullL l.toArray n) a' w') (fun a' w' hC hq' => by
    obtain ⟨k, rfl⟩ := hC
    have := wpAny_of_seq (P := P) (Q' := Q) (l.drop n) n (fullL l.toArray n) a' (w.drewN k) (fun j => by simp) (by simpa using h3) (hq' k)
    rw [List.length_drop] at this
    exact this) _ _ _ ({ w with drawn := w.drawn + 1 }) ⟨1, rfl⟩ hq
  refine wp_region_any hm ?_
  have hlen : (l.take n).length = n := by simp [hn]
  have key := wpAny_tail (P := P) (md := .any) (g := l.length - n) (Q := Q) ok (head := (l.take n).toArray) (fun i hi => by simp [hi]) n
    (List.replicate n false) (List.replicate l.length false) a { w with drawn := w.drawn + 1 } (by simp) (by simp; omega) ⟨by simp, fun j oj _ hl => (by rw [show (List.replicate l.length false).toArray = Array.replicate l.length false by simp, getD_replicate_false] at hl; cases hl), fun t _ ht => getD_in (by simpa using ht) (by rw [show (List.replicate l.length false).toArray = Array.replicate l.length false by simp, getD_replicate_false])⟩ (by simp) (by
      rw [hlen, hsz] at hx
      have e : (Array.replicate n false) = (List.replicate n false).toArray := by simp
      rw [e] at hx; exact hx)
  rw [show n + (l.length - n) = l.toArray.size by simp; omega] at key
  have e : (Array.replicate l.toArray.size false) = (List.replicate l.length false).toArray := by simp
  rw [e]; exact key
theorem wp_region_quiet_tail_in {id : Nat} {a : Act} {w : World} {l : List Oper} (C : World → Prop) (n : Nat) (hm : P.follows .mixedOrders = true)
    (hB : (tailB .any l.toArray n && Region.lexB .any (l.take n).toArray && Region.seqB .any l.toArray (l.length - n) n (fullL l.toArray n)) = true) (hC : C { w with drawn := w.drawn + 1 })
    (h : wpQuiet P (l.take n).toArray C (fun a' => ∀ w', C w' → wpList P l.toArray Q (l.drop n) a' w') (l.take n) a) : (Code.region id l.toArray true).wp P Q a w := by
  simp only [Bool.and_eq_true] at hB
  obtain ⟨⟨h1, h2⟩, h3⟩ := hB
  have ok := tailOk h1
  have hn : n ≤ l.length := by have := ok.le; simp at this; omega
  simp only [Region.lexB, Bool.and_eq_true] at h2
  have hsz : (l.take n).toArray.size = n := by simp [hn]
  have hq := wpAnyQ_lex (C := C) (md := .any) h2.1 (l.take n) 0 (Array.replicate (l.take n).toArray.size false) a (by simp) (by simpa using h2.2) h
  have hx := wpAny_of_quiet (P := P) (Q' := headQ Q fun a' w' => wpAny P .any l.toArray Q (l.length - n) (fullL l.toArray n) a' w') (fun a' w' hC hq' => by
    have := wpAny_of_seq (P := P) (Q' := Q) (l.drop n) n (fullL l.toArray n) a' w' (fun j => by simp) (by simpa using h3) (hq' w' hC)
    rw [List.length_drop] at this
    exact this) _ _ _ ({ w with drawn := w.drawn + 1 }) hC hq
  refine wp_region_any hm ?_
  have hlen : (l.take n).length = n := by simp [hn]
  have key := wpAny_tail (P := P) (md := .any) (g := l.length - n) (Q := Q) ok (head := (l.take n).toArray) (fun i hi => by simp [hi]) n
    (List.replicate n false) (List.replicate l.length false) a { w with drawn := w.drawn + 1 } (by simp) (by simp; omega) ⟨by simp, fun j oj _ hl => (by rw [show (List.replicate l.length false).toArray = Array.replicate l.length false by simp, getD_replicate_false] at hl; cases hl), fun t _ ht => getD_in (by simpa using ht) (by rw [show (List.replicate l.length false).toArray = Array.replicate l.length false by simp, getD_replicate_false])⟩ (by simp) (by
      rw [hlen, hsz] at hx
      have e : (Array.replicate n false) = (List.replicate n false).toArray := by simp
      rw [e] at hx; exact hx)
  rw [show n + (l.length - n) = l.toArray.size by simp; omega] at key
  have e : (Array.replicate l.toArray.size false) = (List.replicate l.length false).toArray := by simp
  rw [e]; exact key
end
end Go.Proofs.YtkdjkmnalkalpaaGreatDoor
namespace Go.Proofs.YtkdjkmnalkalpaaGreatDoor
open Go.RowKit
set_option maxRecDepth 100000
section
variable {P : Program} {C : World → Prop} {o : Oper} {a : Act} {K : Act → Prop} {ops : Array Oper} {rest : List Oper} {Q : Act → Prop}
theorem wpQuiet_run (v : Value) (hw : Region.wanted o (yielded ops a.tmps) = true) (hr : ∀ w, C w → (execOp a.eval o).run P w = .ok (.value v) w)
    (h : wpQuiet P ops C Q rest (a.put o.dst v)) : wpQuiet P ops C Q (o :: rest) a :=
  BigFrame.wpQuiet_want hw fun _ hK => ⟨v, fun w hC => by unfold Oper.quietAt; rw [hr w hC]; exact ⟨rfl, rfl⟩, hK _ h⟩
end
end Go.Proofs.YtkdjkmnalkalpaaGreatDoor
