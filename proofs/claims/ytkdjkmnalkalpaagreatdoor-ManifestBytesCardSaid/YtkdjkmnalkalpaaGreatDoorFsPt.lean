/- SimfsPlays: whatever a script asks for, the file system answers as the document says. A row of numbers inside an argument, opened: it lies in memory, or nothing of it is ever read. Plain; nothing of the program. SimfsPlays, lifted to the statement: whatever is created, appended, synced, renamed and removed, however it is planned and armed, and wherever it crashes, a file system answers as the document says. For every room and every script; no condition. -/
import Derived.Test.YtkdjkmnalkalpaaGreatDoorFsTp
import Derived.Deep.Slices
import Derived.ChangeSame
import Derived.Test.YtkdjkmnalkalpaaGreatDoorLift
namespace Go.Proofs.YtkdjkmnalkalpaaGreatDoor
open Go.RowKit Go.Maps Go.WideMaps
set_option maxRecDepth 100000
set_option maxRecDepth 100000

def OpsAt (w : World) (v : Value) (ops : List OpR) : Prop :=
  (v = .slice none 0 0 ∧ ops = []) ∨ ∃ b o cap, v = .slice (some ⟨b, o, none⟩) ops.length cap ∧ b < w.heap.size ∧ ∀ (i : Nat) (op : OpR), ops[i]? = some op → ∃ dv lv, Bytes w dv op.data ∧ RPlan w lv op.nums ∧
    ∀ W : World, W.heap[b]? = w.heap[b]? → (W.cell? ⟨b, o + i * 6, none⟩ = some (.int .i64 op.kind) ∧ W.cell? ⟨b, o + i * 6 + 1, none⟩ = some (.int .i64 op.num) ∧ W.cell? ⟨b, o + i * 6 + 2, none⟩ = some (.string op.name) ∧ W.cell? ⟨b, o + i * 6 + 3, none⟩ = some (.string op.dest) ∧ W.cell? ⟨b, o + i * 6 + 4, none⟩ = some (dv) ∧ W.cell? ⟨b, o + i * 6 + 5, none⟩ = some (lv))
theorem OpsAt.slice {w : World} {v : Value} {ops : List OpR} (h : OpsAt w v ops) : ∃ a c, v = .slice a ops.length c := by
  rcases h with ⟨rfl, rfl⟩ | ⟨b, o, cap, rfl, _⟩
  · exact ⟨_, _, rfl⟩
  · exact ⟨_, _, rfl⟩
end Go.Proofs.YtkdjkmnalkalpaaGreatDoor
namespace Go.Proofs.YtkdjkmnalkalpaaGreatDoor
open Go.RowKit Go.WideShapes Go.ChangeShapes Go.Deep
set_option maxRecDepth 100000
set_option maxRecDepth 100000
section
variable {H : Type} {enc : TypeId × Value → H} {P : Program} {w : World} {base : Nat} {held : Bool}
theorem cell_here {a : Addr} {v : Value} (h : w.cell? a = some v) : a.spot = none ∧ a.block < w.heap.size := by
  refine ⟨?_, World.block_lt_of_cell? w a h⟩
  unfold World.cell? at h
  split at h
  · split at h
    · cases h
    · rename_i hs; cases hsp : a.spot <;> simp_all
  · cases h
theorem open_row {t e : TypeId} {k : IntKind} {fuel : Nat} {v : Value} {x : DataW H × List MemPlace} (ht : P.underlying t = some (.slice e)) (he : P.underlying e = some (.int k)) (hc : P.cellsOf e = 1)
    (h : DataW.trod enc P w base (fun _ => true) held fuel t [v] = some x) :
    ∃ zs : List Int, (∀ z ∈ zs, (Lit.int k z).wf = true) ∧ ((v = .slice none 0 0 ∧ zs = []) ∨ (∃ a, v = .slice (some a) 0 0 ∧ zs = []) ∨
      ∃ pb po cap, v = .slice (some ⟨pb, po, none⟩) zs.length cap ∧ zs.length ≤ cap ∧ pb < w.heap.size ∧ w.rangeAt pb po (zs.map (Value.int k))) := by
  rcases open_ints ht he hc h with ⟨hcs, _⟩ | ⟨a, len, cap, zs, hcs, _, hl, hm, hz, hx, hcell, hwz⟩
  · simp at hcs
    exact ⟨[], fun z hz => (by cases hz), .inl ⟨hcs, rfl⟩⟩
  · simp at hcs
    subst hcs
    simp at hz
    by_cases h0 : cap = 0
    · subst h0
      obtain rfl : len = 0 := by omega
      exact ⟨[], fun z hz => (by cases hz), .inr (.inl ⟨a, rfl, rfl⟩)⟩
    · obtain ⟨ab, ao, asp⟩ := a
      have h1 := hcell 0 (by omega)
      obtain ⟨hsp, hlt⟩ := cell_here h1
      have e0 : Addr.add ⟨ab, ao, asp⟩ 0 = ⟨ab, ao, asp⟩ := by unfold Addr.add; simp
      rw [e0] at hsp hlt
      cases hsp
      have hlen : (zs.take len).length = len := by simp; omega
      refine ⟨zs.take len, fun z hz => hwz z (List.mem_of_mem_take hz), .inr (.inr ⟨ab, ao, cap, by rw [hlen], by omega, hlt, fun j u hu => ?_⟩)⟩
      rw [List.getElem?_map] at hu
      cases hj : (zs.take len)[j]? with
      | none => rw [hj] at hu; cases hu
      | some y =>
        rw [hj] at hu
        cases hu
        have hjl : j < len := by have := (List.getElem?_eq_some_iff.1 hj).1; omega
        have hcj := hcell j (by omega)
        rw [List.getElem?_take_of_lt hjl] at hj
        rw [List.getD_eq_getElem?_getD, hj] at hcj
        have e : Addr.add ⟨ab, ao, none⟩ j = ⟨ab, ao + j, none⟩ := by unfold Addr.add; by_cases h : j = 0 <;> simp [h]
        rw [← e]; exact hcj
def Row (w : World) (v : Value) (k : IntKind) (zs : List Int) : Prop := (v = .slice none 0 0 ∧ zs = []) ∨ (∃ a, v = .slice (some a) 0 0 ∧ zs = []) ∨
  ∃ pb po cap, v = .slice (some ⟨pb, po, none⟩) zs.length cap ∧ zs.length ≤ cap ∧ pb < w.heap.size ∧ w.rangeAt pb po (zs.map (Value.int k))
end
theorem opCellsI : Tryz.prog.cellsOf 3 = 1 := by kernel_rfl
theorem opCellsL : Tryz.prog.cellsOf 31 = 1 := by kernel_rfl
section
variable {H : Type} {enc : TypeId × Value → H} {w : World} {base : Nat} {held : Bool}
instance : Inhabited OpR := ⟨⟨0, 0, .empty, .empty, [], []⟩⟩
end
end Go.Proofs.YtkdjkmnalkalpaaGreatDoor
namespace Go.Proofs.YtkdjkmnalkalpaaGreatDoor
open Go.RowKit Go.WideShapes Go.ChangeShapes Go.ChangeAt
set_option maxRecDepth 100000
set_option maxRecDepth 100000
end Go.Proofs.YtkdjkmnalkalpaaGreatDoor
