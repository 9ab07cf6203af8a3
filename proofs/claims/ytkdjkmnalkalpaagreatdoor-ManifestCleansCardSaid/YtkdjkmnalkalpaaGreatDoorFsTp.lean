/- SimfsPlays, SimfsTwice: 'Tells': all that is told is the document's. SimfsPlays, SimfsTwice: rows of numbers and of bytes of one's own; a row that is changed while a file system stands beside it. SimfsPlays, SimfsTwice: 'fits'; the script in memory. SimfsPlays, SimfsTwice: 'Play': one call, of the program and of the document. -/
import Derived.Test.YtkdjkmnalkalpaaGreatDoorFsSd
import Derived.Deep.RegionHeldLaw
import Derived.Deep.DeepCutAuto
import Derived.Deep.CutBlock
namespace Go.Proofs.YtkdjkmnalkalpaaGreatDoor
open Go.RowKit Go.Maps Go.WideMaps
set_option maxRecDepth 100000

def OwnU (base : Nat) (w : World) (v : Value) (ys : List Int) : Prop := w.ownsRow base 5 1 v ys.length (ys.map (Value.int .u8))
section
variable {w w' : World} {base : Nat} {v : Value} {g : Addr} {n c : Nat} {ys : List Int}
theorem OwnU.slice (h : OwnU base w v ys) : ∃ a c, v = .slice a ys.length c := by
  rcases h.2 with ⟨rfl, h0⟩ | ⟨x, cap, cur, rfl, _⟩
  · exact ⟨none, 0, by rw [h0]⟩
  · exact ⟨_, _, rfl⟩
theorem OwnU.bytes (h : OwnU base w v ys) : Bytes w v ys := by
  rcases h.2 with ⟨rfl, h0⟩ | ⟨x, cap, cur, rfl, _, hh, h1, h2, h3, h4⟩
  · exact .inl ⟨rfl, List.length_eq_zero_iff.1 h0⟩
  · refine .inr (.inr ⟨x, 0, cap, rfl, h1, (Array.getElem?_eq_some_iff.1 hh).1, fun j u hu => ?_⟩)
    have hj : j < ys.length := by have := (List.getElem?_eq_some_iff.1 hu).1; simpa using this
    rw [← h4, List.getElem?_take_of_lt (by omega)] at hu
    rw [Nat.zero_add, cell_of_row w x j cur _ _ hh, ← Array.getElem?_toList]; exact hu
end
theorem listed {w : World} {base : Nat} {v : Value} {D : List RN} (h : w.ownsRow base 9 1 v (D.map nmL).length ((D.map nmL).map Go.Proofs.encStr)) :
    ∃ a c, v = .slice a D.length c ∧ ∀ (W : World), Below w.heap.size w W → ∀ (i : Nat) (x : RN), D[i]? = some x → ∃ b, a = some ⟨b, 0, none⟩ ∧ W.cell? ⟨b, i, none⟩ = some (.string x.1) := by
  rw [List.length_map] at h
  rcases h.2 with ⟨rfl, h0⟩ | ⟨b, cap, cur, rfl, hb, hh, h1, h2, h3, h4⟩
  · exact ⟨none, 0, by rw [h0], fun W _ i x hx => by rw [List.length_eq_zero_iff.1 h0] at hx; cases hx⟩
  · refine ⟨_, _, rfl, fun W hW i x hx => ⟨b, rfl, ?_⟩⟩
    have hi := (List.getElem?_eq_some_iff.1 hx).1
    rw [World.cell?_of_block (w := w) (hW.block b (Array.getElem?_eq_some_iff.1 hh).1), cell_of_row w b i cur _ _ hh, ← Array.getElem?_toList]
    have h5 : (cur.toList.take (D.length * 1))[i]? = some (.string x.1) := by
      rw [h4, List.getElem?_map, List.getElem?_map, hx]
      show some (Go.Proofs.encStr (nmL x)) = _
      unfold Go.Proofs.encStr nmL
      rw [bytes_back]
    rwa [List.getElem?_take_of_lt (by omega)] at h5
end Go.Proofs.YtkdjkmnalkalpaaGreatDoor
namespace Go.Proofs.YtkdjkmnalkalpaaGreatDoor
open Go.RowKit Go.Maps Go.WideMaps
set_option maxRecDepth 100000

def OwnI (base : Nat) (w : World) (v : Value) (ys : List Int) : Prop := w.ownsRow base 3 1 v ys.length (ys.map (Value.int .i64))
section
variable {w w' : World} {base : Nat} {v : Value} {g : Addr} {n c : Nat} {ys : List Int}
theorem OwnI.slice (h : OwnI base w v ys) : ∃ a c, v = .slice a ys.length c := by
  rcases h.2 with ⟨rfl, h0⟩ | ⟨x, cap, cur, rfl, _⟩
  · exact ⟨none, 0, by rw [h0]⟩
  · exact ⟨_, _, rfl⟩
end
theorem intRowInfo : (Tryz.prog.info? 3).map (fun i => (i.zero, i.size, i.bytes)) = some (some (.int .i64 0), 1, 8) := by kernel_rfl
theorem ones_ints (p : List Int) : ∀ u ∈ p.map (Value.int .i64), u.oneCell' = true := fun u hu => by obtain ⟨n, _, rfl⟩ := List.mem_map.1 hu; rfl
theorem wpList_append_ints {ops : Array Oper} {rest : List Oper} {o : Oper} {a : Act} {w w0 : World} {Q : Exit → Act → World → Prop} (hgd : o.guard = none) (s x : Operand)
    (ho : o.op = .call { callee := .builtin .append, args := #[s, x], argTypes := #[31, 31] })
    (base : Nat) (v u : Value) (ys p : List Int) (hs : a.eval s = v) (hown : OwnI base w v ys) (hx : a.eval x = u) (hp : RPlan w0 u p) (hb : Below w0.heap.size w0 w) (hle : ys.length + p.length ≤ 1000000) (hbase : base ≤ w.heap.size)
    (h : ∀ v' w', OwnI base w' v' (ys ++ p) → w.grownBy w' v.ownBlock → wpList Tryz.prog ops Q rest (a.put o.dst v') w') : wpList Tryz.prog ops Q (o :: rest) a w := by
  obtain ⟨i0, hi, hz0, hz1, hz2⟩ := info_parts intRowInfo
  rcases hp with ⟨rfl, rfl⟩ | ⟨wa, rfl, rfl⟩ | ⟨pb, po, cap, rfl, _, h3, h4⟩
  · refine wpList_append_own_none hgd s x 31 ho base 3 i0 1 Tryz.underlying31 hi v ys.length (ys.map (Value.int .i64)) hs hown hx ?_
    exact h v w (by rw [List.append_nil]; exact hown) ⟨rfl, rfl, rfl, Nat.le_refl _, fun _ _ _ => rfl⟩
  · refine wpList_append_own w hgd s x 31 ho base 3 i0 (.int .i64 0) 1 8 Tryz.underlying31 hi hz0 hz1 hz2 rfl (by decide) v ys.length (ys.map (Value.int .i64)) hs hown wa 0 0 ([].map (Value.int .i64)) hx
      (by simp) (fun j u hu => by cases hu) (fun u hu => by cases hu) (by unfold maxLen; omega) (by omega) hbase ?_
    intro v' w' h1 h2 _
    refine h v' w' ?_ h2
    unfold OwnI
    rw [List.length_append, List.map_append]; exact h1
  · refine wpList_append_own w hgd s x 31 ho base 3 i0 (.int .i64 0) 1 8 Tryz.underlying31 hi hz0 hz1 hz2 rfl (by decide) v ys.length (ys.map (Value.int .i64)) hs hown ⟨pb, po, none⟩ p.length cap (p.map (Value.int .i64)) hx
      (by simp) (fun j u hu => by rw [Addr.add_mid, World.cell?_of_block (w := w0) (hb.block pb h3)]; exact h4 j u hu) (ones_ints p) (by unfold maxLen; omega) (by omega) hbase ?_
    intro v' w' h1 h2 _
    refine h v' w' ?_ h2
    unfold OwnI
    rw [List.length_append, List.map_append]; exact h1
section
variable {w0 w w1 w2 : World} {g : Nat} {S S' : Nat → Prop} {A : FsA} {x : Option Nat}
end
end Go.Proofs.YtkdjkmnalkalpaaGreatDoor
namespace Go.Proofs.YtkdjkmnalkalpaaGreatDoor
open Go.RowKit Go.Maps Go.WideMaps
set_option maxRecDepth 100000

end Go.Proofs.YtkdjkmnalkalpaaGreatDoor
namespace Go.Proofs.YtkdjkmnalkalpaaGreatDoor
open Go.RowKit Go.Maps Go.WideMaps
set_option maxRecDepth 100000

structure OpR where
  kind : Int
  num : Int
  name : ByteArray
  dest : ByteArray
  data : List Int
  nums : List Int
structure OpOk (o : OpR) : Prop where
  data : o.data.length ≤ 300
  nums : o.nums.length ≤ 100
  name : o.name.size ≤ 9223372036854775807
  dest : o.dest.size ≤ 9223372036854775807
  num : o.num ≤ 9223372036854775807
  each : ∀ k ∈ o.nums, k ≤ 9223372036854775807
section
variable {w0 w w1 w2 wx : World} {n g g' : Nat} {P S S' : Nat → Prop} {A A' : FsA} {v : Value}
end
end Go.Proofs.YtkdjkmnalkalpaaGreatDoor
