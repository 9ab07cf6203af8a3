/- Package simfs: every call on a file system that was made since, by what it makes of the state. Package simfs: what a crash leaves, by name. Plain; nothing is walked. What the simfs laws' liftings need of the program itself. Plain facts of its tables. An argument that is a slice of bytes, opened; numbers of a machine. -/
import Derived.Test.YtkdjkmnalkalpaaGreatDoorFsX
import Derived.Test.YtkdjkmnalkalpaaGreatDoorLift
import Derived.Test.YtkdjkmnalkalpaaGreatDoorRows
import Derived.ChangeMaps
import Derived.Test.YtkdjkmnalkalpaaGreatDoorFsL
import Derived.ChangeSlices
namespace Go.Proofs.YtkdjkmnalkalpaaGreatDoor
open Go.RowKit Go.Maps Go.WideMaps
set_option maxRecDepth 100000
section
variable {w0 w : World} {g : Nat} {A : FsA} {n : Nat}
end

end Go.Proofs.YtkdjkmnalkalpaaGreatDoor
namespace Go.Proofs.YtkdjkmnalkalpaaGreatDoor
open Go.RowKit Go.Maps Go.WideMaps
set_option maxRecDepth 100000

theorem key_bytes (s : List UInt8) : keyL ⟨s.toArray⟩ = Lit.string s := by unfold keyL; simp
theorem bytes_back (s : ByteArray) : (⟨s.data.toList.toArray⟩ : ByteArray) = s := by apply ByteArray.ext; simp
theorem mem_names {D : DataW Unit} {s : List UInt8} {b : Nat} (hD : Maps.IsMap D) (h : dget D ⟨s.toArray⟩ = some b) : s ∈ namesD D := by
  obtain ⟨es, rfl⟩ := hD
  unfold namesD
  rw [List.mem_mergeSort]
  unfold dget DataW.atKey at h
  cases hf : es.find? (fun p => p.1.sameKey (keyL ⟨s.toArray⟩)) with
  | none => simp [hf] at h
  | some p =>
    have hs := List.find?_some hf
    have hm := List.mem_of_find?_eq_some hf
    rw [key_bytes] at hs
    show s ∈ es.map fun p => strOf p.1
    refine List.mem_map.2 ⟨p, hm, ?_⟩
    cases hp : p.1 with
    | string t => rw [hp] at hs; simp [Lit.sameKey] at hs; simp [strOf, hs]
    | _ => rw [hp] at hs; simp [Lit.sameKey] at hs
theorem names_nodup {fl : Nat → Option Fil} {D : DataW Unit} (hT : Maps.Tidy D) (hO : OkD fl D) : (namesD D).Nodup := by
  obtain ⟨es, rfl, hpw⟩ := hT
  obtain ⟨es', he, hp⟩ := hO
  cases he
  unfold namesD
  refine (List.mergeSort_perm _ _).nodup_iff.2 ?_
  show (es.map fun p => strOf p.1).Nodup
  unfold List.Nodup
  rw [List.pairwise_map]
  refine List.Pairwise.imp_of_mem (fun {p q} hpm hqm hne => ?_) hpw
  obtain ⟨s, _, _, h1, _⟩ := hp p hpm
  obtain ⟨t, _, _, h2, _⟩ := hp q hqm
  rw [h1, h2] at hne ⊢
  intro e
  apply hne
  unfold keyL at e ⊢
  exact congrArg Lit.string e

section
variable {A : FsA} {L : DataW Unit} {tails : List Int}
end
end Go.Proofs.YtkdjkmnalkalpaaGreatDoor
namespace Go.Proofs.YtkdjkmnalkalpaaGreatDoor
open Go.RowKit Go.WideShapes Go.ChangeShapes Go.ChangeAt
set_option maxRecDepth 100000

theorem Tryz.own : ownKnob Tryz.prog.godebug = none := by kernel_rfl
theorem Tryz.laidOut : laidOutB Tryz.prog = true := by kernel_rfl
end Go.Proofs.YtkdjkmnalkalpaaGreatDoor
namespace Go.Proofs.YtkdjkmnalkalpaaGreatDoor
open Go.RowKit Go.WideShapes Go.ChangeShapes Go.ChangeAt
set_option maxRecDepth 100000
section
variable {H : Type} {enc : TypeId × Value → H} {P : Program}
theorem shape_lt {w : World} {b : Nat} {x : TypeId × Nat} (h : w.shape? b = some x) : b < w.heap.size := by
  by_cases k : b < w.heap.size
  · exact k
  · unfold World.shape? at h; rw [Array.getElem?_eq_none (by omega)] at h; cases h
theorem open_bytes {r : Reach} {b0 : Nat} {t e : Nat} {w : World} {base : Nat} {spare : Nat → Bool} {held : Bool} {v : Value} {d : DataW H} {ps : List MemPlace}
    (ht : P.underlying t = some (.slice e)) (he : P.underlying e = some (.int .u8)) (hcE : P.cellsOf e = 1)
    (hval : Value.okWide P w r b0 t v) (hd : DataW.Trod enc P w base spare held t v d ps) : ∃ zs : List Int, Bytes w v zs ∧ zs.length < 9223372036854775808 ∧ ∀ z ∈ zs, (Lit.int .u8 z).wf = true := by
  obtain ⟨a0, len, cap, rfl⟩ := okWide_slice ht hval
  obtain ⟨fuel, hf⟩ := hd
  rcases open_ints ht he hcE hf with ⟨hcs, _⟩ | ⟨a, len', cap', zs, hcs, _, hl, hm, hz, hx, hcell, hwz⟩
  · simp [Value.cells] at hcs
    obtain ⟨rfl, rfl, rfl⟩ := hcs
    exact ⟨[], Or.inl ⟨rfl, rfl⟩, by simp, fun z hz => by cases hz⟩
  · simp [Value.cells] at hcs
    obtain ⟨rfl, rfl, rfl⟩ := hcs
    have hok : w.has P r b0 a e cap := by
      unfold Value.okWide Cell.okWide Cell.ok at hval
      rw [ht] at hval
      exact hval.2.2
    obtain ⟨_, hsp, row, cells, hsh, _⟩ := hok
    have hlz : len ≤ zs.length := by rw [hz]; split <;> omega
    have hlen : (zs.take len).length = len := by simp; omega
    obtain ⟨ab, ao, asp⟩ := a
    cases hsp
    refine ⟨zs.take len, Or.inr (Or.inr ⟨ab, ao, cap, by rw [hlen], by rw [hlen]; exact hl, shape_lt hsh, fun j u hu => ?_⟩), by rw [hlen]; unfold maxLen at hm; omega, fun z hz => hwz z (List.mem_of_mem_take hz)⟩
    rw [List.getElem?_map] at hu
    cases hj : (zs.take len)[j]? with
    | none => rw [hj] at hu; cases hu
    | some x =>
      rw [hj] at hu
      cases hu
      have hjl : j < len := by have := (List.getElem?_eq_some_iff.1 hj).1; omega
      have hc := hcell j (by omega)
      rw [List.getElem?_take_of_lt hjl] at hj
      rw [List.getD_eq_getElem?_getD, hj] at hc
      simpa [Addr.add] using (show w.cell? ⟨ab, ao + j, none⟩ = _ by
        have e : Addr.add ⟨ab, ao, none⟩ j = ⟨ab, ao + j, none⟩ := by unfold Addr.add; by_cases h : j = 0 <;> simp [h]
        rw [← e]; exact hc)
end

end Go.Proofs.YtkdjkmnalkalpaaGreatDoor
