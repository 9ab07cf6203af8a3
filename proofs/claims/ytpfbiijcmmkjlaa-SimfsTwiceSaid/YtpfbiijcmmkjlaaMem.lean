/- Words on memory: a block known whole as a list of cells; a world that has changed at one block alone. Plain; nothing of the program. -/
import Derived.WalkKit
import Derived.Deep.MidRow
import Derived.Deep.WholeRow
import Derived.Deep.QuietTactic
import Derived.Deep.DeepCutAuto
import Derived.Deep.CutBlock
import Derived.Deep.LoopGhost
import Derived.Deep.DeepFit
namespace Go.Proofs.Ytpfbiijcmmkjlaa
open Go.RowKit

/-- Block g holds just these cells, none of them frozen. -/
def Blk (w : World) (g : Nat) (t : TypeId) (cs : List Value) : Prop := w.heap[g]? = some (.cells cs.toArray t (0, 0))
variable {w w' : World} {g : Nat} {t : TypeId} {cs : List Value}

theorem Blk.lt (h : Blk w g t cs) : g < w.heap.size := by
  by_cases k : g < w.heap.size
  · exact k
  · unfold Blk at h; rw [Array.getElem?_eq_none (by omega)] at h; cases h
theorem Blk.cell_eq (h : Blk w g t cs) (i : Nat) : w.cell? ⟨g, i, none⟩ = cs[i]? := by
  rw [cell_of_row w g i cs.toArray t (0, 0) h]; simp
theorem Blk.cell (h : Blk w g t cs) {i : Nat} {v : Value} (hv : cs[i]? = some v) : w.cell? ⟨g, i, none⟩ = some v := by rw [h.cell_eq, hv]
theorem Blk.frozen (h : Blk w g t cs) (i : Nat) : w.frozen? ⟨g, i, none⟩ = false := frozen_of_row w g i cs.toArray t h
theorem Blk.set (h : Blk w g t cs) (i : Nat) (v : Value) : Blk (w.setCell ⟨g, i, none⟩ v) g t (cs.set i v) := by
  have := heap_setCell_same w g i cs.toArray t v h
  simpa [Blk] using this
theorem Blk.set_other (h : Blk w g t cs) {a : Addr} (ha : g ≠ a.block) (v : Value) : Blk (w.setCell a v) g t cs := by
  unfold Blk; rw [heap_setCell_other w a g v ha]; exact h
theorem Blk.new (w : World) (t : TypeId) (cs : List Value) : Blk (w.alloc (.cells cs.toArray t)) w.heap.size t cs := heap_alloc_new w _
theorem Blk.alloc (h : Blk w g t cs) (o : Obj) : Blk (w.alloc o) g t cs := by
  unfold Blk; rw [Below.heap_alloc w o g h.lt]; exact h
theorem Blk.drew (h : Blk w g t cs) : Blk w.drew g t cs := h
theorem Blk.drewN (h : Blk w g t cs) (n : Nat) : Blk (w.drewN n) g t cs := h
theorem Blk.range (h : Blk w g t cs) (o : Nat) (sub : List Value) (hs : ∀ j v, sub[j]? = some v → cs[o + j]? = some v) : w.rangeAt g o sub :=
  fun j v hv => h.cell (hs j v hv)
theorem Blk.there (h : Blk w g t cs) (o n : Nat) (hn : o + n ≤ cs.length) : w.there g o n := fun j hj =>
  ⟨by rw [h.cell_eq]; simp; omega, h.frozen _⟩
/-- The cells vs laid over cs from place o on. -/
def over (cs : List Value) : Nat → List Value → List Value
  | _, [] => cs
  | o, v :: r => over (cs.set o v) (o + 1) r
theorem Blk.setCells : ∀ (vs : List Value) (o : Nat) {w : World} {cs : List Value}, Blk w g t cs → Blk (w.setCells g o vs) g t (over cs o vs)
  | [], _, _, _, h => h
  | v :: r, o, _, _, h => Blk.setCells r (o + 1) (h.set o v)
theorem Blk.setCells_other {g' : Nat} (hg : g ≠ g') : ∀ (vs : List Value) (o : Nat) {w : World}, Blk w g t cs → Blk (w.setCells g' o vs) g t cs
  | [], _, _, h => h
  | v :: r, o, _, h => Blk.setCells_other hg r (o + 1) (h.set_other (a := ⟨g', o, none⟩) hg v)
theorem over_length : ∀ (vs : List Value) (o : Nat) (cs : List Value), (over cs o vs).length = cs.length
  | [], _, _ => rfl
  | v :: r, o, cs => by rw [over, over_length r]; simp
theorem over_get : ∀ (vs : List Value) (o : Nat) (cs : List Value) (i : Nat), (over cs o vs)[i]? = if o ≤ i ∧ i < o + vs.length ∧ i < cs.length then vs[i - o]? else cs[i]?
  | [], o, cs, i => by
    have h : ¬ (o ≤ i ∧ i < o + ([] : List Value).length ∧ i < cs.length) := by simp; omega
    rw [over, if_neg h]
  | v :: r, o, cs, i => by
    rw [over, over_get r (o + 1) (cs.set o v) i]
    simp only [List.length_set, List.length_cons]
    by_cases h1 : o + 1 ≤ i ∧ i < o + 1 + r.length ∧ i < cs.length
    · have h4 : o ≤ i ∧ i < o + (r.length + 1) ∧ i < cs.length := ⟨by omega, by omega, by omega⟩
      rw [if_pos h1, if_pos h4, show i - o = (i - (o + 1)) + 1 by omega]; simp
    · rw [if_neg h1]
      by_cases h2 : o = i
      · subst h2
        by_cases h3 : o < cs.length
        · rw [if_pos ⟨by omega, by omega, h3⟩]; simp [h3]
        · rw [if_neg (by omega), List.getElem?_eq_none (by simpa using h3), List.getElem?_eq_none (by omega)]
      · rw [List.getElem?_set_ne h2, if_neg (by omega)]
/-- A part in the middle laid anew. -/
theorem over_mid (a b b' c : List Value) (h : b'.length = b.length) : over (a ++ b ++ c) a.length b' = a ++ b' ++ c := by
  apply List.ext_getElem?
  intro i
  rw [over_get]
  simp only [List.getElem?_append, List.length_append]
  by_cases h1 : i < a.length
  · rw [if_neg (fun k => by omega), if_pos (by omega), if_pos h1, if_pos (by omega), if_pos h1]
  · by_cases h2 : i < a.length + b.length
    · by_cases h3 : c.length = c.length
      · rw [if_pos ⟨by omega, by omega, by omega⟩, if_pos (by omega), if_neg h1]
      · exact absurd rfl h3
    · rw [if_neg (fun k => by omega), if_neg (by omega), if_neg (by omega), h]

/-- Below block number B all is as it was, but for block g. -/
structure But (B g : Nat) (w w' : World) : Prop where
  os : w'.os = w.os
  tape : w'.tape = w.tape
  output : w'.output = w.output
  size : w.heap.size ≤ w'.heap.size
  block : ∀ k, k < B → k ≠ g → w'.heap[k]? = w.heap[k]?
variable {B : Nat}
theorem But.refl (B g : Nat) (w : World) : But B g w w := ⟨rfl, rfl, rfl, Nat.le_refl _, fun _ _ _ => rfl⟩
theorem But.trans {a b c : World} (h : But B g a b) (k : But B g b c) : But B g a c :=
  ⟨k.os.trans h.os, k.tape.trans h.tape, k.output.trans h.output, Nat.le_trans h.size k.size, fun i hi hg => (k.block i hi hg).trans (h.block i hi hg)⟩
theorem But.mono {B' : Nat} (h : But B g w w') (hB : B' ≤ B) : But B' g w w' := ⟨h.os, h.tape, h.output, h.size, fun k hk => h.block k (by omega)⟩
theorem But.of_below (h : Below B w w') : But B g w w' := ⟨h.os, h.tape, h.output, h.size, fun k hk _ => h.block k hk⟩
theorem But.below (h : But B g w w') (hg : B ≤ g) : Below B w w' := ⟨h.os, h.tape, h.output, h.size, fun k hk => h.block k hk (by omega)⟩
theorem But.drew {a : World} (h : But B g a w) : But B g a w.drew := ⟨h.os, h.tape, h.output, h.size, h.block⟩
theorem But.drewN {a : World} (h : But B g a w) (n : Nat) : But B g a (w.drewN n) := ⟨h.os, h.tape, h.output, h.size, h.block⟩
theorem But.alloc {a : World} (h : But B g a w) (hB : B ≤ w.heap.size) (o : Obj) : But B g a (w.alloc o) :=
  h.trans (But.of_below ((Below.refl _ _).alloc hB o))
theorem But.setCell {a : World} (h : But B g a w) {p : Addr} (hp : B ≤ p.block ∨ p.block = g) (u : Value) : But B g a (w.setCell p u) :=
  h.trans ⟨rfl, rfl, rfl, by simp [World.setCell], fun k hk hg => Below.heap_setCell _ _ _ _ (by omega)⟩
theorem But.setCells {a : World} {b : Nat} (hp : B ≤ b ∨ b = g) : ∀ (vs : List Value) (o : Nat) {w : World}, But B g a w → But B g a (w.setCells b o vs)
  | [], _, _, h => h
  | v :: r, o, _, h => But.setCells hp r (o + 1) (h.setCell (p := ⟨b, o, none⟩) hp v)
theorem But.blk {t : TypeId} {cs : List Value} {k : Nat} (h : But B g w w') (hk : k < B) (hg : k ≠ g) (b : Blk w k t cs) : Blk w' k t cs := by
  unfold Blk; rw [h.block k hk hg]; exact b
theorem Below.blk {t : TypeId} {cs : List Value} {k : Nat} (h : Below B w w') (hk : k < B) (b : Blk w k t cs) : Blk w' k t cs := by
  unfold Blk; rw [h.block k hk]; exact b
theorem Below.drewN {a : World} (h : Below B a w) (n : Nat) : Below B a (w.drewN n) := ⟨h.os, h.tape, h.output, h.size, h.block⟩

/-- A row laid over itself. -/
theorem setRow_same {cs : Array Value} {fr : Nat × Nat} (h : w.heap[g]? = some (.cells cs t fr)) : w.setRow g cs = w := by
  have hh : (w.setRow g cs).heap = w.heap := by
    apply Array.ext_getElem?
    intro i
    unfold World.setRow
    rw [Array.getElem?_modify]
    by_cases hi : g = i
    · subst hi; rw [if_pos rfl, h]; rfl
    · rw [if_neg hi]
  have e : w.setRow g cs = { w with heap := (w.setRow g cs).heap } := rfl
  rw [e, hh]
theorem Below.setRow {a : World} (h : Below B a w) {k : Nat} (hk : B ≤ k) (cs : Array Value) : Below B a (w.setRow k cs) :=
  h.trans ⟨rfl, rfl, rfl, by simp [World.setRow], fun i hi => by
    unfold World.setRow
    simp only [Array.getElem?_modify]
    rw [if_neg (by omega)]⟩
theorem Blk.setRow {cs' : List Value} (h : Blk w g t cs) : Blk (w.setRow g cs'.toArray) g t cs' := setRow_heap w g _ _ t (0, 0) h
/-- A row of n cells of which the first are vs and the others z. -/
def fill (n : Nat) (z : Value) (vs : List Value) : List Value := vs ++ List.replicate (n - vs.length) z
theorem fill_length {n : Nat} {z : Value} {vs : List Value} (h : vs.length ≤ n) : (fill n z vs).length = n := by simp [fill]; omega
theorem fill_set {n : Nat} {z v : Value} {vs : List Value} (h : vs.length < n) : (fill n z vs).set vs.length v = fill n z (vs ++ [v]) := by
  unfold fill
  rw [List.set_append_right _ _ (Nat.le_refl _), Nat.sub_self, show n - vs.length = (n - (vs ++ [v]).length) + 1 by simp; omega, List.replicate_succ]
  simp
theorem fill_next {n : Nat} {z : Value} {vs : List Value} (h : vs.length < n) : (fill n z vs)[vs.length]? = some z := by
  unfold fill; rw [List.getElem?_append_right (Nat.le_refl _), Nat.sub_self, show n - vs.length = (n - vs.length - 1) + 1 by omega, List.replicate_succ]; rfl
theorem fill_full {n : Nat} {z : Value} {vs : List Value} (h : vs.length = n) : fill n z vs = vs := by simp [fill, h]
theorem fill_get {n : Nat} {z : Value} {vs : List Value} {i : Nat} (h : i < n) (hv : vs.length ≤ n) : ((fill n z vs)[i]?).isSome = true := by
  simp [fill_length hv, h]
theorem ones_int (k : IntKind) (l : List Int) : ∀ v ∈ l.map (Value.int k), v.oneCell' = true := by
  intro v hv; obtain ⟨x, _, rfl⟩ := List.mem_map.1 hv; rfl
/-- An operation without a guard, at a region that draws its order. -/
theorem step_plain {P : Program} {ops : Array Oper} {o : Oper} {a : Act} {w : World} {K : Act → World → Prop} {Q : Exit → Act → World → Prop} {E : Prop}
    (hg : o.guard = none) (h : Oper.wp P o a w K Q) : if Region.wanted o (yielded ops a.tmps) = true then Oper.wp P o a w K Q else E := by
  have hw : Region.wanted o (yielded ops a.tmps) = true := by simp [Region.wanted, hg]
  rw [if_pos hw]; exact h
end Go.Proofs.Ytpfbiijcmmkjlaa
