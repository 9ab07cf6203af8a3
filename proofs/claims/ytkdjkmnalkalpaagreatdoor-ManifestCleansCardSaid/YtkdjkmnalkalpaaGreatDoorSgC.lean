/- Package seglog: 'Name'. Package seglog: 'Create', 'Append'. Package seglog: the names of segments. -/
import Derived.Test.YtkdjkmnalkalpaaGreatDoorFsSd
import Derived.Test.YtkdjkmnalkalpaaGreatDoorFrR
import Derived.WalkSmall
import Derived.Lib.ItoaNum
namespace Go.Proofs.YtkdjkmnalkalpaaGreatDoor
open Go.RowKit
set_option maxRecDepth 100000
set_option maxRecDepth 100000

def Tab (w : World) : Prop := Lib.TabIs Tryz.prog w "internal/strconv.uint64pow10" .u64 Lib.pow10Tab
theorem tabGlobal : Tryz.prog.globalNamed "internal/strconv.uint64pow10" = some 3 := by kernel_rfl
theorem Tab.below {w0 w : World} (h : Tab w0) (hb : Below w0.heap.size w0 w) : Tab w :=
  var?_below hb tabGlobal (World.block_lt_of_cell? w0 _ ((World.var?_cell tabGlobal h 0).trans (show _ = some (Value.int .u64 1) from rfl))) h
theorem grow_below (w : World) (k : Nat) (os : Array Obj) : Below w.heap.size w (Sort.grow (w.drewN k) os) := by
  have h := Below.drewN (Below.refl w.heap.size w) k
  refine ⟨h.os, h.tape, h.output, ?_, fun j hj => ?_⟩
  · have := h.size
    simp only [Sort.grow, Array.size_append]; omega
  · have := h.size
    have e := h.block j hj
    simp only [Sort.grow]
    rw [Array.getElem?_append_left (by omega)]; exact e
def segNameL (id : Int) : List UInt8 := [115, 101, 103, 45] ++ Lib.decDigits id.toNat
def nameV (id : Int) : ByteArray := if 1 ≤ id ∧ id ≤ 2147483647 then ⟨(segNameL id).toArray⟩ else ⟨#[]⟩
def codeN (id : Int) : Int := if 1 ≤ id ∧ id ≤ 2147483647 then 0 else 1
theorem digits_len : ∀ n : Nat, n < 10 ^ 10 → (Lib.decDigits n).length ≤ 10 := by
  have key : ∀ k n : Nat, n < 10 ^ (k + 1) → (Lib.decDigits n).length ≤ k + 1 := by
    intro k
    induction k with
    | zero => intro n h; rw [Lib.decDigits]; split <;> simp_all
    | succ k ih =>
      intro n h
      rw [Lib.decDigits]
      split
      · simp
      · have := ih (n / 10) (by rw [Nat.pow_succ] at h; omega)
        simp only [List.length_append, List.length_cons, List.length_nil]; omega
  exact fun n h => key 9 n h
theorem nameV_size (id : Int) : (nameV id).size ≤ 14 := by
  unfold nameV
  split
  · have h := digits_len id.toNat (by omega)
    show (segNameL id).toArray.size ≤ 14
    unfold segNameL
    simp only [List.size_toArray, List.length_append, List.length_cons, List.length_nil]; omega
  · exact Nat.zero_le _
set_option maxHeartbeats 1000000 in
theorem name_any (id : Int) (w : World) (ht : Tab w) :
    Calls Tryz.prog 149 #[.int .i64 id] w fun e w' => e = .returned (.tuple #[.string (nameV id), .int .i64 (codeN id)]) ∧ Below w.heap.size w w' := by
  by_cases h1 : 1 ≤ id
  · by_cases h2 : id ≤ 2147483647
    · have hv : nameV id = ⟨(segNameL id).toArray⟩ := if_pos ⟨h1, h2⟩
      have hc : codeN id = 0 := if_pos ⟨h1, h2⟩
      have hI := Tryz.strconv_Itoa id (by omega) (by omega) w ht
      obtain ⟨s, hs⟩ : ∃ s : ByteArray, s = ⟨(Lib.itoa id).toArray⟩ := ⟨_, rfl⟩
      rw [← hs] at hI
      have hz : s.size ≤ 20 := by
        have := nameV_size id
        rw [hv] at this
        rw [hs, show Lib.itoa id = Lib.decDigits id.toNat by unfold Lib.itoa; rw [if_neg (by omega)]]
        have h9 := digits_len id.toNat (by omega)
        show (Lib.decDigits id.toNat).toArray.size ≤ 20
        rw [List.size_toArray]; omega
      have hE : (⟨#[115, 101, 103, 45]⟩ : ByteArray) ++ s = nameV id := by
        rw [hv, hs, show Lib.itoa id = Lib.decDigits id.toNat by unfold Lib.itoa; rw [if_neg (by omega)]]
        apply ByteArray.ext
        rw [ByteArray.data_append]
        apply Array.toList_inj.1
        rw [Array.toList_append]
        unfold segNameL
        simp
      have HI := Lib.hid hI
      have HE := Lib.hid hE
      have HC := Lib.hid hc
      have n1 : ¬ id < 1 := by omega
      have n2 : ¬ 2147483647 < id := by omega
      have n3 : ¬ 9223372036854775807 < 4 + s.size := by omega
      clear hI hE hs hv hc h1 h2
      go_enter Tryz.func149, Tryz.ntmps149
      go_wp2_with (go_at_call 194; refine HI.out.mono ?_; rintro e w' ⟨rfl, k, os, rfl⟩)
      go_ret2
      exact ⟨by rw [← HE.out, HC.out]; rfl, grow_below w k os⟩
    · have hv : nameV id = ⟨#[]⟩ := if_neg (by omega)
      have hc : codeN id = 1 := if_neg (by omega)
      rw [hv, hc]
      have n1 : ¬ id < 1 := by omega
      have n2 : 2147483647 < id := by omega
      go_enter Tryz.func149, Tryz.ntmps149
      go_wp2_with fail
      go_ret2
      exact ⟨rfl, Below.refl _ _⟩
  · have hv : nameV id = ⟨#[]⟩ := if_neg (by omega)
    have hc : codeN id = 1 := if_neg (by omega)
    rw [hv, hc]
    have n1 : id < 1 := by omega
    go_enter Tryz.func149, Tryz.ntmps149
    go_wp2_with fail
    go_ret2
    exact ⟨rfl, Below.refl _ _⟩
end Go.Proofs.YtkdjkmnalkalpaaGreatDoor
namespace Go.Proofs.YtkdjkmnalkalpaaGreatDoor
open Go.RowKit
set_option maxRecDepth 100000
set_option maxRecDepth 100000

section
variable {w0 w : World} {g n : Nat} {S : Nat → Prop} {A : FsA}
end
section
variable {w0 w : World} {g n : Nat} {S : Nat → Prop} {A : FsA}
end
end Go.Proofs.YtkdjkmnalkalpaaGreatDoor
namespace Go.Proofs.YtkdjkmnalkalpaaGreatDoor
open Go.RowKit
set_option maxRecDepth 100000
set_option maxRecDepth 100000

theorem codeN_or (id : Int) : codeN id = 0 ∨ codeN id = 1 := by unfold codeN; split <;> simp
theorem getD_mem {l : List Int} {i : Nat} (h : i < l.length) : l.getD i 0 ∈ l := by
  rw [List.getD_eq_getElem?_getD, List.getElem?_eq_getElem h]; exact List.getElem_mem h
theorem take_succ_getD {l : List Int} {i : Nat} (h : i < l.length) : l.take (i + 1) = l.take i ++ [l.getD i 0] := by
  rw [List.take_succ_eq_append_getElem h, List.getD_eq_getElem?_getD, List.getElem?_eq_getElem h]; rfl
theorem Ints.cells {w : World} {a : Option Addr} {c : Nat} {p : List Int} (h : Ints w (.slice a p.length c) p) (hp : 0 < p.length) :
    ∃ pb po, a = some ⟨pb, po, none⟩ ∧ pb < w.heap.size ∧ ∀ i, i < p.length → w.cell? ⟨pb, po + i, none⟩ = some (.int .i64 (p.getD i 0)) := by
  rcases h with ⟨_, rfl⟩ | ⟨pb, po, cap, hv, hb, hr⟩
  · simp at hp
  · cases hv
    exact ⟨pb, po, rfl, hb, fun i hi => hr i _ (by rw [List.getElem?_map, List.getD_eq_getElem?_getD, List.getElem?_eq_getElem hi]; rfl)⟩

end Go.Proofs.YtkdjkmnalkalpaaGreatDoor
