/- Package manifest: what parse answers. -/
import Derived.Test.YtkdjkmnalkalpaaGreatDoorMfP

namespace Go.Proofs.YtkdjkmnalkalpaaGreatDoor
open Go.RowKit Go.Shelf
attribute [local go_sem] Oper.semAt_some
set_option maxRecDepth 100000

def ErrV (w : World) (g : Nat) : Prop := ∃ ev, w.cell? ⟨g, 0, none⟩ = some ev ∧ (ev = .nilIface ∨ ∃ te pe, ev = .iface te pe)
theorem ErrV.below {w0 w : World} {g : Nat} (h : ErrV w0 g) (hb : Below w0.heap.size w0 w) : ErrV w g := by
  obtain ⟨ev, hc, he⟩ := h
  exact ⟨ev, (hb.cell (p := ⟨g, 0, none⟩) (World.block_lt_of_cell? w0 _ hc)).trans hc, he⟩
theorem atoi_any (x : List Int) (W : World) (hx : x.length < 100000) (h1 : ErrV W 1) (h2 : ErrV W 2) :
    Calls Tryz.prog 155 #[.string (strOfNums x)] W fun e W' => ((∃ v, atoiP x = some v ∧ e = .returned (.tuple #[.int .i64 v, .nilIface])) ∨ (atoiP x = none ∧ ∃ k t p, e = .returned (.tuple #[.int .i64 k, .iface t p]))) ∧ Below W.heap.size W W' := by
  have hsz : (strOfNums x).size = x.length := strOfNums_size x
  have hd : (strOfNums x).data.toList = Lib.bytesOf x := rfl
  rcases hA : Lib.atoiAll (Lib.bytesOf x) with v | _ | _
  · refine (Tryz.strconv_Atoi_ok (strOfNums x) (by omega) v (by rw [hd]; exact hA) W).mono ?_
    rintro e w1 ⟨rfl, hw1⟩
    refine ⟨.inl ⟨v, by unfold atoiP; rw [hA], rfl⟩, ?_⟩
    rcases hw1 with rfl | ⟨_, rfl⟩
    · exact Below.refl _ _
    · exact Lib.bytesWorld_below _ _ _
  · obtain ⟨ev, hev, hee⟩ := h1
    refine (Tryz.strconv_Atoi_syntax (strOfNums x) (by omega) (by rw [hd]; exact hA) ev W hev hee).mono ?_
    rintro e w1 ⟨N, rfl, _, _, hb1⟩
    exact ⟨.inr ⟨by unfold atoiP; rw [hA], _, _, _, rfl⟩, hb1⟩
  · obtain ⟨ev, hev, hee⟩ := h2
    refine (Tryz.strconv_Atoi_range (strOfNums x) (by omega) (by rw [hd]; exact hA) ev W hev hee).mono ?_
    rintro e w1 ⟨N, rfl, _, _, hb1⟩
    exact ⟨.inr ⟨by unfold atoiP; rw [hA], _, _, _, rfl⟩, hb1⟩
def nsP (pre : List (List Int)) : List Int := (numsP pre).getD []
def ResB (w W : World) : Prop := W.heap[w.heap.size]? = some (.cells #[.int .i64 0, .slice none 0 0] 37 (0, 0)) ∧ Boxed W (w.heap.size + 1) 4 (.bool false) ∧ Below w.heap.size w W ∧ w.heap.size + 8 ≤ W.heap.size
def LineI (w : World) (pre : List (List Int)) (W : World) : Prop :=
  (∃ v, Boxed W (w.heap.size + 2) 31 v ∧ W.ownsRow (w.heap.size + 8) 3 1 v (nsP pre).length ((nsP pre).map (Value.int .i64)) ∧ (numsP pre).isSome = true) ∧ ResB w W
def LineX (w : World) (pre : List (List Int)) (W : World) : Prop := (∃ x, x ∈ pre ∧ atoiP x = none) ∧ ResB w W
theorem ResB.own {w : World} : OwnFrom (w.heap.size + 8) (fun (_ : List (List Int)) W => ResB w W) := by
  rintro s W W' row ⟨h1, h2, h3, h4⟩ hg hr
  have key : ∀ k, k < w.heap.size + 8 → k < W.heap.size → W'.heap[k]? = W.heap[k]? := fun k hk hl => hg.block k hl (fun e => by have := (hr k e.symm).1; omega)
  refine ⟨(key _ (by omega) (Array.getElem?_eq_some_iff.1 h1).1).trans h1, (key _ (by omega) h2.lt).trans h2, h3.grown hg h3.size fun k e => ?_, Nat.le_trans h4 hg.size⟩
  have := (hr k e).1
  omega
theorem ResB.set {w W : World} (h : ResB w W) {b : Nat} (hb : w.heap.size + 2 ≤ b) (v : Value) : ResB w (W.setCell ⟨b, 0, none⟩ v) := by
  have key : ∀ k, k ≠ b → (W.setCell ⟨b, 0, none⟩ v).heap[k]? = W.heap[k]? := fun k hk => Below.heap_setCell W ⟨b, 0, none⟩ v k hk
  exact ⟨(key _ (by omega)).trans h.1, (key _ (by omega)).trans h.2.1, h.2.2.1.setCell (p := ⟨b, 0, none⟩) (show w.heap.size ≤ b by omega) v, Nat.le_trans h.2.2.2 (grownBy_setCell' W b v).size⟩
theorem LineX.own {w : World} : OwnFrom (w.heap.size + 8) (LineX w) := OwnFrom.and (ownFrom_pure _ _) ResB.own
theorem LineI.own {w : World} : OwnFrom (w.heap.size + 8) (LineI w) :=
  OwnFrom.and (Own.from (holdsRow_own (w.heap.size + 8) (w.heap.size + 2) 31 3 1 (fun pre => (nsP pre).length) (fun pre => (nsP pre).map (Value.int .i64)) (fun pre _ => (numsP pre).isSome = true)) _) ResB.own
theorem LineI.set {w W : World} {pre : List (List Int)} (h : LineI w pre W) (v : Value) : LineI w pre (W.setCell ⟨w.heap.size + 5, 0, none⟩ v) := by
  obtain ⟨⟨u, hu, hr, hn⟩, h2⟩ := h
  refine ⟨⟨u, hu.other (by omega) v, hr.kept (grownBy_setCell' W _ v) ?_, hn⟩, h2.set (by omega) v⟩
  rcases hr.2 with ⟨rfl, _⟩ | ⟨g, cap, cur, rfl, hge, _⟩
  · exact .inl rfl
  · exact .inr fun e => by
      have : w.heap.size + 5 = g := by simpa [Value.ownBlock] using e.symm
      omega
end Go.Proofs.YtkdjkmnalkalpaaGreatDoor
