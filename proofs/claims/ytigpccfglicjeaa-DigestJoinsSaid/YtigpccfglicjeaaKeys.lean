/- Two digests that are the same compare so; an argument that is a slice of bytes, opened. -/
import Derived.Test.YtigpccfglicjeaaRefBase
import Derived.Test.YtigpccfglicjeaaEq
import Derived.Test.YtigpccfglicjeaaEval
import Derived.Test.YtigpccfglicjeaaOwn
import Derived.Test.YtigpccfglicjeaaRows
import Derived.ChangeSlices
import Derived.Laws.BytesArg
namespace Go.Proofs.Ytigpccfglicjeaa
open Go.RowKit Go.WideShapes Go.ChangeShapes Go.ChangeAt

theorem keyInfo_cells : Try.prog.cellsOf 5 = 1 := by kernel_rfl
/-- The comparison of two digests that are the same. -/
theorem key_same (T : Nat) (hu : Try.prog.underlying T = some (.array 32 5)) (X : Array Value) (p : List Int) (hX : X = ((sumI p).map (Value.int .u8)).toArray) (hl : (sumI p).length = 32) (w : World) :
    (Op.equalIn 10000 T (.agg X) (.agg X)).run Try.prog w = .ok true w := by
  obtain ⟨i0, hi, _⟩ := info_parts byteInfo
  exact run_eq_same 9998 hu Try.underlying5 Try.isAgg5 hi keyInfo_cells X (fun i hi => ⟨(sumI p).getD i 0, by rw [hX, List.getElem?_toArray, List.getElem?_map, getD_some (by omega)]; rfl⟩) w

section
variable {H : Type} {enc : TypeId × Value → H} {P : Program}
theorem shape_lt {w : World} {b : Nat} {x : TypeId × Nat} (h : w.shape? b = some x) : b < w.heap.size := by
  by_cases k : b < w.heap.size
  · exact k
  · unfold World.shape? at h; rw [Array.getElem?_eq_none (by omega)] at h; cases h
/-- An argument that is a slice of bytes. -/
theorem open_bytes {r : Reach} {b0 : Nat} {t e : Nat} {w : World} {base : Nat} {spare : Nat → Bool} {held : Bool} {v : Value} {d : DataW H} {ps : List MemPlace}
    (ht : P.underlying t = some (.slice e)) (he : P.underlying e = some (.int .u8)) (hcE : P.cellsOf e = 1)
    (hval : Value.okWide P w r b0 t v) (hd : DataW.Trod enc P w base spare held t v d ps) : ∃ zs : List Int, Bytes w v zs ∧ zs.length < 9223372036854775808 ∧ ∀ z ∈ zs, (Lit.int .u8 z).wf = true := by
  obtain ⟨a0, len, cap, rfl⟩ := okWide_slice ht hval
  obtain ⟨fuel, hf⟩ := hd
  rcases open_ints ht he hcE hf with ⟨hcs, _⟩ | ⟨a, len', cap', zs, hcs, _, hl, hm, hz, hx, hcell, hwz⟩
  · simp [Value.cells] at hcs
    obtain ⟨rfl, rfl, rfl⟩ := hcs
    exact ⟨[], Or.inl ⟨rfl, rfl⟩, by simp, fun z hz => by cases hz⟩
  · simp [Value.cells] at hcs
    obtain ⟨rfl, rfl, rfl⟩ := hcs
    have hok : w.has P r b0 a e cap := by
      unfold Value.okWide Cell.okWide Cell.ok at hval
      rw [ht] at hval
      exact hval.2.2
    obtain ⟨_, hsp, row, cells, hsh, _⟩ := hok
    have hlz : len ≤ zs.length := by rw [hz]; split <;> omega
    have hlen : (zs.take len).length = len := by simp; omega
    obtain ⟨ab, ao, asp⟩ := a
    cases hsp
    refine ⟨zs.take len, Or.inr ⟨ab, ao, cap, by rw [hlen], by rw [hlen]; exact hl, shape_lt hsh, fun j u hu => ?_⟩, by rw [hlen]; unfold maxLen at hm; omega, fun z hz => hwz z (List.mem_of_mem_take hz)⟩
    rw [List.getElem?_map] at hu
    cases hj : (zs.take len)[j]? with
    | none => rw [hj] at hu; cases hu
    | some x =>
      rw [hj] at hu
      cases hu
      have hjl : j < len := by have := (List.getElem?_eq_some_iff.1 hj).1; omega
      have hc := hcell j (by omega)
      rw [List.getElem?_take_of_lt hjl] at hj
      rw [List.getD_eq_getElem?_getD, hj] at hc
      simpa [Addr.add] using (show w.cell? ⟨ab, ao + j, none⟩ = _ by
        have e : Addr.add ⟨ab, ao, none⟩ j = ⟨ab, ao + j, none⟩ := by unfold Addr.add; by_cases h : j = 0 <;> simp [h]
        rw [← e]; exact hc)
end

/-- The text of a slice of bytes. -/
theorem run_string {w : World} {v : Value} {p : List Int} (h : Bytes w v p) : (convert 22 9 v).run Try.prog w = .ok (.string (strOfNums p)) w := by
  rcases h with ⟨rfl, rfl⟩ | ⟨pb, po, cap, rfl, _, _, h4⟩
  · exact run_convert_bytes_nil w 22 5 Try.underlying22 Try.underlying5 0 0 9 Try.underlying9
  · refine run_convert_bytes_arg w 22 5 Try.underlying22 Try.underlying5 pb po p.length cap p rfl (fun i hi => h4 i _ ?_) 9 Try.underlying9
    rw [List.getElem?_map, List.getD_eq_getElem?_getD, List.getElem?_eq_getElem hi]; rfl
theorem OwnB.bytes {w : World} {base : Nat} {v : Value} {p : List Int} (h : OwnB w base v p) : Bytes w v p := by
  rcases h.2 with ⟨h0, h1⟩ | ⟨g, cap, cur, hv, _, hh, hn, _, hcs, hxs⟩
  · exact Or.inl ⟨h0, List.length_eq_zero_iff.1 h1⟩
  · refine Or.inr ⟨g, 0, cap, hv, hn, ?_, fun j u hu => ?_⟩
    · by_cases k : g < w.heap.size
      · exact k
      · rw [Array.getElem?_eq_none (by omega)] at hh; cases hh
    · rw [cell_of_row w g (0 + j) cur 5 (0, 0) hh, ← Array.getElem?_toList]
      rw [← hxs] at hu
      rw [List.getElem?_take] at hu
      split at hu
      · rw [Nat.zero_add]; exact hu
      · cases hu
end Go.Proofs.Ytigpccfglicjeaa
