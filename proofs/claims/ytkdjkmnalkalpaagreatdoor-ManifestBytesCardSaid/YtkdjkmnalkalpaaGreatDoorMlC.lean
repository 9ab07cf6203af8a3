/- ManifestLast, ManifestSwaps: arguments that are slices of manifests, of texts, of numbers and of slices of numbers; they lie in memory, or nothing of them is ever read. Plain; nothing is walked. ManifestBytes, ManifestCleans: an argument that is a manifest. Plain; nothing is walked. -/
import Derived.Test.YtkdjkmnalkalpaaGreatDoorMfJ
import Derived.Test.YtkdjkmnalkalpaaGreatDoorFsPt
import Derived.Deep.Slices
namespace Go.Proofs.YtkdjkmnalkalpaaGreatDoor
open Go.RowKit Go.WideShapes Go.ChangeShapes Go.ChangeAt Go.Deep
set_option maxRecDepth 100000
set_option maxRecDepth 100000

def ManAt (w : World) (v : Value) (ms : List (Int × List Int)) : Prop :=
  (v = .slice none 0 0 ∧ ms = []) ∨ ∃ b o cap, v = .slice (some ⟨b, o, none⟩) ms.length cap ∧ b < w.heap.size ∧ ∀ (i : Nat) (m : Int × List Int), ms[i]? = some m → ∃ u, IntsW w u m.2 ∧
    ∀ W : World, W.heap[b]? = w.heap[b]? → W.cell? ⟨b, o + i * 2, none⟩ = some (.int .i64 m.1) ∧ W.cell? ⟨b, o + i * 2 + 1, none⟩ = some u
theorem ManAt.slice {w : World} {v : Value} {ms : List (Int × List Int)} (h : ManAt w v ms) : ∃ a c, v = .slice a ms.length c := by
  rcases h with ⟨rfl, rfl⟩ | ⟨b, o, cap, rfl, _⟩
  · exact ⟨_, _, rfl⟩
  · exact ⟨_, _, rfl⟩
def StrAt (w : World) (v : Value) (ss : List ByteArray) : Prop :=
  (v = .slice none 0 0 ∧ ss = []) ∨ ∃ b o cap, v = .slice (some ⟨b, o, none⟩) ss.length cap ∧ b < w.heap.size ∧ ∀ (i : Nat) (s : ByteArray), ss[i]? = some s → ∀ W : World, W.heap[b]? = w.heap[b]? → W.cell? ⟨b, o + i, none⟩ = some (.string s)
def StrOk (ss : List ByteArray) : Prop := ∀ s ∈ ss, s.size ≤ 9223372036854775807
theorem StrAt.slice {w : World} {v : Value} {ss : List ByteArray} (h : StrAt w v ss) : ∃ a c, v = .slice a ss.length c := by
  rcases h with ⟨rfl, rfl⟩ | ⟨b, o, cap, rfl, _⟩
  · exact ⟨_, _, rfl⟩
  · exact ⟨_, _, rfl⟩
theorem Row.intsW {w : World} {v : Value} {zs : List Int} (h : Row w v .i64 zs) : IntsW w v zs := by
  rcases h with ⟨h1, h2⟩ | ⟨a, h1, h2⟩ | ⟨b, o, cap, h1, _, h3, h4⟩
  · exact .inl (.inl ⟨h1, h2⟩)
  · exact .inr ⟨a, 0, h1, h2⟩
  · exact .inl (.inr ⟨b, o, cap, h1, h3, h4⟩)
theorem manCells : Tryz.prog.cellsOf 37 = 2 := by kernel_rfl
section
variable {H : Type} {enc : TypeId × Value → H} {P : Program} {w : World} {base : Nat} {held : Bool}
theorem open_row_len {t e : TypeId} {k : IntKind} {fuel : Nat} {v : Value} {x : DataW H × List MemPlace} (ht : P.underlying t = some (.slice e)) (he : P.underlying e = some (.int k)) (hc : P.cellsOf e = 1)
    (h : DataW.trod enc P w base (fun _ => true) held fuel t [v] = some x) : ∃ zs : List Int, (∀ z ∈ zs, (Lit.int k z).wf = true) ∧ Row w v k zs ∧ zs.length < 9223372036854775808 := by
  obtain ⟨zs, h1, h2⟩ := open_row ht he hc h
  refine ⟨zs, h1, h2, ?_⟩
  rcases open_slice ht h with ⟨hcs, _⟩ | ⟨a, len, cap, m, n, D, Pl, hcs, _, hl, hm, _, _, _⟩
  · simp at hcs
    subst hcs
    rcases h2 with ⟨_, rfl⟩ | ⟨a, e, rfl⟩ | ⟨_, _, _, e, _⟩
    · simp
    · simp
    · cases e
  · simp at hcs
    subst hcs
    unfold maxLen at hm
    rcases h2 with ⟨_, rfl⟩ | ⟨a, e, rfl⟩ | ⟨_, _, _, e, _⟩
    · simp
    · simp
    · injection e with e1 e2 e3
      omega
theorem open_strs {r : Reach} {b0 : Nat} {T t : Nat} {v : Value} {d : DataW H} {ps : List MemPlace} (hT : P.underlying T = some (.slice t)) (ht : P.underlying t = some .string) (hc : P.cellsOf t = 1)
    (hval : Value.okWide P w r b0 T v) (hd : DataW.Trod enc P w base (fun _ => true) held T v d ps) : ∃ ss : List ByteArray, StrAt w v ss ∧ StrOk ss := by
  obtain ⟨a0, len, cap, rfl⟩ := okWide_slice hT hval
  obtain ⟨fuel, hf⟩ := hd
  rcases open_slice1 hT hc hf with ⟨hcs, _⟩ | ⟨a, len', cap', m, n, V, D, Pl, hcs, _, hl, hm, hmm, _, hx⟩
  · simp [Value.cells] at hcs
    obtain ⟨rfl, rfl, rfl⟩ := hcs
    exact ⟨[], Or.inl ⟨rfl, rfl⟩, fun z hz => by cases hz⟩
  · simp [Value.cells] at hcs
    obtain ⟨rfl, rfl, rfl⟩ := hcs
    have hok : w.has P r b0 a t cap := by
      unfold Value.okWide Cell.okWide Cell.ok at hval
      rw [hT] at hval
      exact hval.2.2
    obtain ⟨_, hsp, row, cells, hsh, _⟩ := hok
    obtain ⟨ab, ao, asp⟩ := a
    cases hsp
    simp at hmm
    have each : ∀ i, i < len → ∃ s : ByteArray, w.cell? ⟨ab, ao + i, none⟩ = some (.string s) ∧ s.size ≤ 9223372036854775807 := by
      intro i hi
      obtain ⟨h1, h2⟩ := hx i (by omega)
      obtain ⟨s, e, _, hs⟩ := DataW.trod_string ht h2
      simp at e
      rw [e, add_plain] at h1
      unfold maxLen at hs
      exact ⟨s, h1, by omega⟩
    obtain ⟨ss, hsl, hss⟩ := Fr.exists_list ByteArray.empty len each
    have hgetD : ∀ (i : Nat) (s : ByteArray), ss[i]? = some s → ss.getD i ByteArray.empty = s := fun i s h => by rw [List.getD_eq_getElem?_getD, h]; rfl
    refine ⟨ss, Or.inr ⟨ab, ao, cap, by rw [hsl], Fr.shape_lt hsh, fun i s hi W hW => ?_⟩, fun s hs => ?_⟩
    · have hil : i < len := by rw [← hsl]; exact (List.getElem?_eq_some_iff.1 hi).1
      rw [World.cell?_of_block (w := w) hW, ← hgetD i s hi]
      exact (hss i hil).1
    · obtain ⟨i, hi, rfl⟩ := List.getElem_of_mem hs
      have := (hss i (by omega)).2
      rw [hgetD i _ (List.getElem?_eq_getElem hi)] at this
      exact this
end
section
variable {H : Type} {enc : TypeId × Value → H} {w : World} {base : Nat} {held : Bool}
theorem open_man {fuel : Nat} {cs : List Value} {y : DataW H × List MemPlace} (h : DataW.trod enc Tryz.prog w base (fun _ => true) held fuel 37 cs = some y) :
    ∃ (m : Int × List Int) (u : Value), cs = [.int .i64 m.1, u] ∧ IntsW w u m.2 ∧ m.2.length < 9223372036854775808 := by
  obtain ⟨xs, k, _, _, hcl, hxl, hf⟩ := DataW.trod_struct Tryz.underlying37 h
  rw [manCells] at hcl
  match xs, hxl, cs, hcl with
  | [y0, y1], _, [v0, v1], _ =>
    have g0 := hf 0 _ rfl
    have g1 := hf 1 _ rfl
    simp [opCellsI, opCellsL] at g0 g1
    obtain ⟨n0, e0, _, _⟩ := DataW.trod_int Tryz.underlying3 g0
    obtain ⟨zl, _, hl, hzl⟩ := open_row_len Tryz.underlying31 Tryz.underlying3 opCellsI g1
    simp at e0
    subst e0
    exact ⟨(n0, zl), v1, rfl, hl.intsW, hzl⟩
end
end Go.Proofs.YtkdjkmnalkalpaaGreatDoor
namespace Go.Proofs.YtkdjkmnalkalpaaGreatDoor
open Go.RowKit Go.WideShapes Go.ChangeShapes Go.ChangeAt Go.Deep
set_option maxRecDepth 100000

theorem open_manArg {H : Type} {enc : TypeId × Value → H} {w : World} {base : Nat} {held : Bool} {r : Reach} {b0 : Nat} {v : Value} {d : DataW H} {ps : List MemPlace} (hval : Value.okWide Tryz.prog w r b0 37 v)
    (hd : DataW.Trod enc Tryz.prog w base (fun _ => true) held 37 v d ps) : ∃ (n : Int) (ns : List Int) (u : Value), v = .agg #[.int .i64 n, u] ∧ IntsW w u ns ∧ ns.length < 9223372036854775808 := by
  obtain ⟨cs, rfl, _⟩ := okWide_struct Tryz.underlying37 hval
  obtain ⟨fuel, hf⟩ := hd
  obtain ⟨m, u, hcs, hu, hl⟩ := open_man hf
  refine ⟨m.1, m.2, u, ?_, hu, hl⟩
  have h1 : cs.toList = [.int .i64 m.1, u] := by simpa [Value.cells] using hcs
  have h2 : cs = #[.int .i64 m.1, u] := Array.toList_inj.1 h1
  rw [h2]
end Go.Proofs.YtkdjkmnalkalpaaGreatDoor
