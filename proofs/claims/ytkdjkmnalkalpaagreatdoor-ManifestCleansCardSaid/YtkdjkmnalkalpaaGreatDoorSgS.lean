/- Segments that are made one behind the other by calls that go well. Plain; nothing is walked. SeglogRows: what is made, and what is read of it. Plain; nothing is walked. SeglogRows: two rows of numbers beside a file system. Plain; nothing is walked. -/
import Derived.Test.YtkdjkmnalkalpaaGreatDoorSgL
namespace Go.Proofs.YtkdjkmnalkalpaaGreatDoor
open Go.RowKit Go.Maps Go.WideMaps
set_option maxRecDepth 100000
set_option maxRecDepth 100000

structure Segs (A : FsA) (n : Nat) (D : List (Int × List Int)) : Prop where
  inv : Inv A n
  by_ : ByA A
  calm : Calm A
  room : A.room = 30000
  size : Maps.size A.now = D.length
  lens : ∀ b f, A.file b = some f → f.data.length ≤ 60
  once : (D.map (·.1)).Nodup
  ids : ∀ p ∈ D, 1 ≤ p.1 ∧ p.1 ≤ 2147483647
  has : ∀ p ∈ D, ∃ b f, dget A.now (nameV p.1) = some b ∧ A.file b = some f ∧ f.data = p.2
  fresh : ∀ id, 1 ≤ id → id ≤ 2147483647 → (∀ p ∈ D, p.1 ≠ id) → Maps.has A.now (keyL (nameV id)) = false
  apart : ∀ p ∈ D, ∀ q ∈ D, p.1 ≠ q.1 → dget A.now (nameV p.1) ≠ dget A.now (nameV q.1)
section
variable {A : FsA} {n b : Nat} {D : List (Int × List Int)} {id : Int}
theorem Segs.read (h : Segs A n D) {p : Int × List Int} (hp : p ∈ D) : readA A (nameV p.1) = (p.2, 0) := by
  obtain ⟨b, f, e1, e2, e3⟩ := h.has p hp
  obtain ⟨i1, i2⟩ := h.ids p hp
  unfold readA
  rw [findA_some (nameB_nameV i1 i2) e1, if_pos rfl]
  simp [e2, e3]
end
end Go.Proofs.YtkdjkmnalkalpaaGreatDoor
namespace Go.Proofs.YtkdjkmnalkalpaaGreatDoor
open Go.RowKit Go.Maps Go.WideMaps
set_option maxRecDepth 100000
set_option maxRecDepth 100000

end Go.Proofs.YtkdjkmnalkalpaaGreatDoor
namespace Go.Proofs.YtkdjkmnalkalpaaGreatDoor
open Go.RowKit
set_option maxRecDepth 100000
set_option maxRecDepth 100000

section
variable {w0 w w' : World} {g n n' : Nat} {S S' : Nat → Prop} {A A' : FsA} {D D' : List (Int × List Int)} {v7 v8 v' : Value} {ids want : List Int} {x : Int}
theorem Segs.mono (h : Segs A n D) (hn : n ≤ n') : Segs A n' D := ⟨h.inv.mono hn, h.by_, h.calm, h.room, h.size, h.lens, h.once, h.ids, h.has, h.fresh, h.apart⟩
end
end Go.Proofs.YtkdjkmnalkalpaaGreatDoor
