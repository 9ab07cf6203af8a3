/- The state of a digest in memory, 137 cells: the hash, the constants, the block, the total. -/
import Derived.Test.YtigpccfglicjeaaMem
namespace Go.Proofs.Ytigpccfglicjeaa
open Go.RowKit

def stCells (h r b : List Int) (t : Int) : List Value := h.map (.int .u32) ++ (r.map (.int .u32) ++ (b.map (.int .u8) ++ [.int .u64 t]))
/-- Block g is a state: of this hash, these constants, this block, this total. -/
structure St (w : World) (g : Nat) (h r b : List Int) (t : Int) : Prop where
  blk : Blk w g 52 (stCells h r b t)
  hl : h.length = 8
  rl : r.length = 64
  bl : b.length = 64
variable {w w' : World} {g : Nat} {h r b : List Int} {t : Int}

theorem getD_some {l : List Int} {i : Nat} (hi : i < l.length) : l[i]? = some (l.getD i 0) := by
  rw [List.getD_eq_getElem?_getD, List.getElem?_eq_getElem hi]; rfl
theorem St.hash (s : St w g h r b t) (i : Nat) (hi : i < 8) : w.cell? ⟨g, i, none⟩ = some (.int .u32 (h.getD i 0)) := by
  refine s.blk.cell ?_
  have := s.hl
  unfold stCells
  rw [List.getElem?_append_left (by simp; omega), List.getElem?_map, getD_some (by omega)]; rfl
theorem St.round (s : St w g h r b t) (i : Nat) (hi : i < 64) : w.cell? ⟨g, 8 + i, none⟩ = some (.int .u32 (r.getD i 0)) := by
  refine s.blk.cell ?_
  have := s.hl; have := s.rl
  unfold stCells
  rw [List.getElem?_append_right (by simp; omega), List.getElem?_append_left (by simp; omega), List.getElem?_map, getD_some (by simp; omega)]
  simp [s.hl]
theorem St.tot (s : St w g h r b t) : w.cell? ⟨g, 136, none⟩ = some (.int .u64 t) := by
  refine s.blk.cell ?_
  have := s.hl; have := s.rl; have := s.bl
  unfold stCells
  rw [List.getElem?_append_right (by simp; omega), List.getElem?_append_right (by simp; omega), List.getElem?_append_right (by simp; omega)]
  simp [s.hl, s.rl, s.bl]
theorem St.frozen (s : St w g h r b t) (i : Nat) : w.frozen? ⟨g, i, none⟩ = false := s.blk.frozen i
theorem St.lt (s : St w g h r b t) : g < w.heap.size := s.blk.lt
theorem stCells_length : (stCells h r b t).length = h.length + (r.length + (b.length + 1)) := by simp [stCells]
theorem St.there (s : St w g h r b t) (o n : Nat) (hn : o + n ≤ 137) : w.there g o n :=
  s.blk.there o n (by rw [stCells_length, s.hl, s.rl, s.bl]; exact hn)
theorem St.hashRange (s : St w g h r b t) : w.rangeAt g 0 (h.map (.int .u32)) := by
  refine s.blk.range 0 _ fun j v hv => ?_
  have hj : j < h.length := by have := (List.getElem?_eq_some_iff.1 hv).1; simpa using this
  unfold stCells
  rw [List.getElem?_append_left (by simp; omega), Nat.zero_add]; exact hv
theorem St.blockRange (s : St w g h r b t) : w.rangeAt g 72 (b.map (.int .u8)) := by
  refine s.blk.range 72 _ fun j v hv => ?_
  have hj : j < b.length := by have := (List.getElem?_eq_some_iff.1 hv).1; simpa using this
  have := s.hl; have := s.rl
  unfold stCells
  rw [List.getElem?_append_right (by simp; omega), List.getElem?_append_right (by simp; omega), List.getElem?_append_left (by simp; omega), ← hv]
  congr 1; simp [s.hl, s.rl]; omega
theorem St.setHash (s : St w g h r b t) (i : Nat) (hi : i < 8) (v : Int) : St (w.setCell ⟨g, i, none⟩ (.int .u32 v)) g (h.set i v) r b t where
  blk := by
    have h1 := s.blk.set i (.int .u32 v)
    have e : (stCells h r b t).set i (.int .u32 v) = stCells (h.set i v) r b t := by
      unfold stCells
      rw [List.set_append_left _ _ (by simp [s.hl]; omega), List.map_set]
    rw [e] at h1; exact h1
  hl := by simp [s.hl]
  rl := s.rl
  bl := s.bl
theorem St.setTot (s : St w g h r b t) (v : Int) : St (w.setCell ⟨g, 136, none⟩ (.int .u64 v)) g h r b v where
  blk := by
    have h1 := s.blk.set 136 (.int .u64 v)
    have e : (stCells h r b t).set 136 (.int .u64 v) = stCells h r b v := by
      have := s.hl; have := s.rl; have := s.bl
      unfold stCells
      rw [List.set_append_right _ _ (by simp; omega), List.set_append_right _ _ (by simp; omega), List.set_append_right _ _ (by simp; omega)]
      simp [s.hl, s.rl, s.bl]
    rw [e] at h1; exact h1
  hl := s.hl
  rl := s.rl
  bl := s.bl
/-- The bytes vs laid over b from place o on. -/
def overI (b : List Int) : Nat → List Int → List Int
  | _, [] => b
  | o, v :: q => overI (b.set o v) (o + 1) q
theorem overI_length : ∀ (vs : List Int) (o : Nat) (b : List Int), (overI b o vs).length = b.length
  | [], _, _ => rfl
  | v :: q, o, b => by rw [overI, overI_length q]; simp
theorem over_st (h r : List Int) (t : Int) (hl : h.length = 8) (rl : r.length = 64) : ∀ (vs : List Int) (o : Nat) (b : List Int), o + vs.length ≤ b.length →
    over (stCells h r b t) (72 + o) (vs.map (.int .u8)) = stCells h r (overI b o vs) t
  | [], _, _, _ => rfl
  | v :: q, o, b, ho => by
    have e : (stCells h r b t).set (72 + o) (.int .u8 v) = stCells h r (b.set o v) t := by
      simp at ho
      unfold stCells
      rw [List.set_append_right _ _ (by simp; omega), List.set_append_right _ _ (by simp; omega), List.set_append_left _ _ (by simp; omega), List.map_set]
      congr 5; simp; omega
    rw [List.map_cons, over, e, Nat.add_assoc, over_st h r t hl rl q (o + 1) (b.set o v) (by simp at ho ⊢; omega)]
    rfl
theorem St.setBlock (s : St w g h r b t) (o : Nat) (vs : List Int) (ho : o + vs.length ≤ 64) : St (w.setCells g (72 + o) (vs.map (.int .u8))) g h r (overI b o vs) t where
  blk := by
    have h1 := s.blk.setCells (vs.map (Value.int .u8)) (72 + o)
    rw [over_st h r t s.hl s.rl vs o b (by rw [s.bl]; exact ho)] at h1; exact h1
  hl := s.hl
  rl := s.rl
  bl := by rw [overI_length, s.bl]
theorem St.drewN (s : St w g h r b t) (n : Nat) : St (w.drewN n) g h r b t := ⟨s.blk, s.hl, s.rl, s.bl⟩
theorem St.drew (s : St w g h r b t) : St w.drew g h r b t := ⟨s.blk, s.hl, s.rl, s.bl⟩
theorem St.alloc (s : St w g h r b t) (o : Obj) : St (w.alloc o) g h r b t := ⟨s.blk.alloc o, s.hl, s.rl, s.bl⟩
theorem St.other (s : St w g h r b t) {a : Addr} (ha : g ≠ a.block) (v : Value) : St (w.setCell a v) g h r b t := ⟨s.blk.set_other ha v, s.hl, s.rl, s.bl⟩
theorem St.below {B : Nat} (s : St w g h r b t) (hb : Below B w w') (hg : g < B) : St w' g h r b t := ⟨Below.blk hb hg s.blk, s.hl, s.rl, s.bl⟩
/-- A goal of the walk at a world that gets a name. -/
theorem wp_world {P : Program} {c : Code} {Q : Exit → Act → World → Prop} {a : Act} {W : World} (h : ∀ w', w' = W → Code.wp P c Q a w') : Code.wp P c Q a W := h W rfl
end Go.Proofs.Ytigpccfglicjeaa
