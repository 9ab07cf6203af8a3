/- SeglogPlays: a script that came in, opened: it lies in memory, or nothing of it is ever read. Plain; nothing is walked. -/
import Derived.Test.YtigbgajelkknbaaGreatDoorSpA
namespace Go.Proofs.YtigbgajelkknbaaGreatDoor
open Go.RowKit Go.WideShapes Go.ChangeShapes Go.ChangeAt Go.Deep
set_option maxRecDepth 100000
section
variable {H : Type} {enc : TypeId × Value → H} {P : Program} {w : World} {base : Nat} {held : Bool}
/-- A row of rows of bytes inside an argument. -/
theorem open_prow {T t e : TypeId} {fuel : Nat} {v : Value} {x : DataW H × List MemPlace} (hT : P.underlying T = some (.slice t)) (ht : P.underlying t = some (.slice e)) (he : P.underlying e = some (.int .u8)) (hcT : P.cellsOf t = 1) (hcE : P.cellsOf e = 1)
    (h : DataW.trod enc P w base (fun _ => true) held fuel T [v] = some x) :
    ∃ zs : List (List Int), Fr.Parts w v zs ∧ zs.length < 9223372036854775808 ∧ ∀ i, i < zs.length → Fr.Byt (zs.getD i []) := by
  rcases open_slice1 hT hcT h with ⟨hcs, _⟩ | ⟨a, len, cap, m, n, V, D, Pl, hcs, _, hl, hm, hmm, _, hx⟩
  · simp at hcs
    exact ⟨[], .inl ⟨.inl hcs, rfl⟩, by simp, fun i hi => by simp at hi⟩
  · simp at hcs
    subst hcs
    simp at hmm
    subst hmm
    by_cases h0 : m = 0
    · subst h0
      obtain rfl : len = 0 := by omega
      exact ⟨[], .inl ⟨.inr ⟨a, rfl⟩, rfl⟩, by simp, fun i hi => by simp at hi⟩
    · obtain ⟨ab, ao, asp⟩ := a
      obtain ⟨hsp, hlt⟩ := cell_here (hx 0 (by omega)).1
      have e0 : Addr.add ⟨ab, ao, asp⟩ 0 = ⟨ab, ao, asp⟩ := by unfold Addr.add; simp
      rw [e0] at hsp hlt
      cases hsp
      have each : ∀ i, i < len → ∃ z : List Int, (∃ u, w.cell? ⟨ab, ao + i, none⟩ = some u ∧ Fr.BytesE w u z) ∧ Fr.Byt z := by
        intro i hi
        obtain ⟨h1, h2⟩ := hx i (by omega)
        obtain ⟨z, hz, _, hzw⟩ := Fr.bytes_of_trod ht he hcE h2
        have e : Addr.add ⟨ab, ao, none⟩ i = ⟨ab, ao + i, none⟩ := by unfold Addr.add; by_cases h : i = 0 <;> simp [h]
        rw [e] at h1
        exact ⟨z, ⟨_, h1, hz⟩, fun y hy => wf_u8 (hzw y hy)⟩
      obtain ⟨zs, hzl, hzs⟩ := Fr.exists_list [] len each
      exact ⟨zs, .inr ⟨ab, ao, m, by rw [hzl], hlt, fun i hi => (hzs i (by omega)).1⟩, by unfold maxLen at hm; omega, fun i hi => (hzs i (by omega)).2⟩
end
theorem opCellsG : Tryz.prog.cellsOf 41 = 10 := by kernel_rfl
theorem opCellsP : Tryz.prog.cellsOf 36 = 1 := by kernel_rfl
theorem Row.u8 {w : World} {v : Value} {zs : List Int} (h : Row w v .u8 zs) : Bytes w v zs := h
theorem Row.i64 {w : World} {v : Value} {zs : List Int} (h : Row w v .i64 zs) : RPlan w v zs := h
section
variable {H : Type} {enc : TypeId × Value → H} {w : World} {base : Nat} {held : Bool}
/-- A call of the file system inside an argument, its data bytes. -/
theorem open_op_b {fuel : Nat} {cs : List Value} {y : DataW H × List MemPlace} (h : DataW.trod enc Tryz.prog w base (fun _ => true) held fuel 39 cs = some y) :
    ∃ (op : OpR) (dv lv : Value), cs = [.int .i64 op.kind, .int .i64 op.num, .string op.name, .string op.dest, dv, lv] ∧ Row w dv .u8 op.data ∧ Row w lv .i64 op.nums ∧
      op.name.size ≤ 9223372036854775807 ∧ op.dest.size ≤ 9223372036854775807 ∧ op.num ≤ 9223372036854775807 ∧ (∀ k ∈ op.nums, k ≤ 9223372036854775807) ∧ Fr.Byt op.data := by
  obtain ⟨xs, k, _, _, hcl, hxl, hf⟩ := DataW.trod_struct Tryz.underlying39 h
  rw [opCells] at hcl
  match xs, hxl, cs, hcl with
  | [y0, y1, y2, y3, y4, y5], _, [v0, v1, v2, v3, v4, v5], _ =>
    have g0 := hf 0 _ rfl
    have g1 := hf 1 _ rfl
    have g2 := hf 2 _ rfl
    have g3 := hf 3 _ rfl
    have g4 := hf 4 _ rfl
    have g5 := hf 5 _ rfl
    simp [opCellsI, opCellsS, opCellsB, opCellsL] at g0 g1 g2 g3 g4 g5
    obtain ⟨n0, e0, _, w0⟩ := DataW.trod_int Tryz.underlying3 g0
    obtain ⟨n1, e1, _, w1⟩ := DataW.trod_int Tryz.underlying3 g1
    obtain ⟨s2, e2, _, w2⟩ := DataW.trod_string Tryz.underlying9 g2
    obtain ⟨s3, e3, _, w3⟩ := DataW.trod_string Tryz.underlying9 g3
    obtain ⟨zd, wd, hd⟩ := open_row Tryz.underlying37 Tryz.underlying5 opCellsU g4
    obtain ⟨zl, wl, hl⟩ := open_row Tryz.underlying23 Tryz.underlying3 opCellsI g5
    simp at e0 e1 e2 e3
    subst e0 e1 e2 e3
    unfold maxLen at w2 w3
    exact ⟨⟨n0, n1, s2, s3, zd, zl⟩, v4, v5, rfl, hd, hl, by show s2.size ≤ _; omega, by show s3.size ≤ _; omega, wf_max w1, fun k hk => wf_max (wl k hk), fun z hz => wf_u8 (wd z hz)⟩
/-- What is asked of such a call's numbers. -/
def OkG (op : OpG) : Prop := op.fs.name.size ≤ 9223372036854775807 ∧ op.fs.dest.size ≤ 9223372036854775807 ∧ op.fs.num ≤ 9223372036854775807 ∧ (∀ k ∈ op.fs.nums, k ≤ 9223372036854775807) ∧ Fr.Byt op.fs.data ∧ op.parts.length < 9223372036854775808 ∧ ∀ i, i < op.parts.length → Fr.Byt (op.parts.getD i [])
set_option maxRecDepth 100000 in
theorem open_opG {fuel : Nat} {cs : List Value} {y : DataW H × List MemPlace} (h : DataW.trod enc Tryz.prog w base (fun _ => true) held fuel 41 cs = some y) :
    ∃ (op : OpG) (pv dv lv : Value), cs = [.int .i64 op.kind, .int .i64 op.id, .int .i64 op.type, pv, .int .i64 op.fs.kind, .int .i64 op.fs.num, .string op.fs.name, .string op.fs.dest, dv, lv] ∧ Fr.Parts w pv op.parts ∧ Row w dv .u8 op.fs.data ∧ Row w lv .i64 op.fs.nums ∧ OkG op := by
  obtain ⟨xs, k, _, _, hcl, hxl, hf⟩ := DataW.trod_struct Tryz.underlying41 h
  rw [opCellsG] at hcl
  match xs, hxl, cs, hcl with
  | [y0, y1, y2, y3, y4], _, [v0, v1, v2, v3, v4, v5, v6, v7, v8, v9], _ =>
    have g0 := hf 0 _ rfl
    have g1 := hf 1 _ rfl
    have g2 := hf 2 _ rfl
    have g3 := hf 3 _ rfl
    have g4 := hf 4 _ rfl
    simp [opCellsI, opCellsP, opCells] at g0 g1 g2 g3 g4
    obtain ⟨n0, e0, _, w0⟩ := DataW.trod_int Tryz.underlying3 g0
    obtain ⟨n1, e1, _, w1⟩ := DataW.trod_int Tryz.underlying3 g1
    obtain ⟨n2, e2, _, w2⟩ := DataW.trod_int Tryz.underlying3 g2
    obtain ⟨zs, hz, hzl, hzb⟩ := open_prow Tryz.underlying36 Tryz.underlying37 Tryz.underlying5 opCellsB opCellsU g3
    obtain ⟨fs, dv, lv, ef, hd, hl, q1, q2, q3, q4, q5⟩ := open_op_b g4
    simp at e0 e1 e2 ef
    subst e0 e1 e2
    obtain ⟨rfl, rfl, rfl, rfl, rfl, rfl⟩ := ef
    exact ⟨⟨n0, n1, n2, zs, fs⟩, v3, _, _, rfl, hz, hd, hl, q1, q2, q3, q4, q5, hzl, hzb⟩
instance : Inhabited OpG := ⟨⟨0, 0, 0, [], ⟨0, 0, .empty, .empty, [], []⟩⟩⟩
set_option maxRecDepth 100000 in
theorem open_opsG {r : Reach} {b0 : Nat} {v : Value} {d : DataW H} {ps : List MemPlace} (hval : Value.okWide Tryz.prog w r b0 22 v)
    (hd : DataW.Trod enc Tryz.prog w base (fun _ => true) held 22 v d ps) : ∃ ops : List OpG, OpsAtG w v ops ∧ OpsOkG ops := by
  obtain ⟨a0, len, cap, rfl⟩ := okWide_slice Tryz.underlying22 hval
  obtain ⟨fuel, hf⟩ := hd
  rcases open_slice Tryz.underlying22 hf with ⟨hcs, _⟩ | ⟨a, len', cap', m, n, D, Pl, hcs, _, hl, hm, hmm, _, hx⟩
  · simp [Value.cells] at hcs
    obtain ⟨rfl, rfl, rfl⟩ := hcs
    exact ⟨[], Or.inl ⟨rfl, rfl⟩, fun z hz => by cases hz⟩
  · simp [Value.cells] at hcs
    obtain ⟨rfl, rfl, rfl⟩ := hcs
    have hok : w.has Tryz.prog r b0 a 41 cap := by
      unfold Value.okWide Cell.okWide Cell.ok at hval
      rw [Tryz.underlying22] at hval
      exact hval.2.2
    obtain ⟨_, hsp, row, cells, hsh, _⟩ := hok
    obtain ⟨ab, ao, asp⟩ := a
    cases hsp
    simp at hmm
    have each : ∀ i, i < len → ∃ op : OpG, (∃ pv dv lv, Fr.Parts w pv op.parts ∧ Row w dv .u8 op.fs.data ∧ Row w lv .i64 op.fs.nums ∧ ∀ (j : Nat) (u : Value), [Value.int .i64 op.kind, .int .i64 op.id, .int .i64 op.type, pv, .int .i64 op.fs.kind, .int .i64 op.fs.num, .string op.fs.name, .string op.fs.dest, dv, lv][j]? = some u → w.cell? ⟨ab, ao + i * 10 + j, none⟩ = some u) ∧
        OkG op := by
      intro i hi
      obtain ⟨cs', h1, h2⟩ := hx i (by omega)
      rw [opCellsG] at h1
      obtain ⟨op, pv, dv, lv, rfl, hpv, hdv, hlv, hz⟩ := open_opG h2
      obtain ⟨_, _, hcell⟩ := World.cells?_some h1
      refine ⟨op, ⟨pv, dv, lv, hpv, hdv, hlv, fun j u hu => ?_⟩, hz⟩
      have hj : j < 10 := (List.getElem?_eq_some_iff.1 hu).1
      have hc := hcell j hj
      rw [add_add, Addr.add_mid, ← Nat.add_assoc, hu] at hc
      exact hc
    obtain ⟨f, hfn⟩ := choose_lt each
    have hlen : ((List.range len).map f).length = len := by simp
    refine ⟨(List.range len).map f, Or.inr ⟨ab, ao, cap, by rw [hlen], Fr.shape_lt hsh, fun i op hop => ?_⟩, fun op hop => ?_⟩
    · rw [List.getElem?_map] at hop
      by_cases hi : i < len
      · rw [List.getElem?_range hi] at hop
        cases hop
        obtain ⟨pv, dv, lv, hpv, hdv, hlv, hc⟩ := (hfn i hi).1
        refine ⟨pv, dv, lv, hpv, hdv.u8, hlv.i64, fun W hW => ?_⟩
        have hc' : ∀ (j : Nat) (u : Value), _ → W.cell? ⟨ab, ao + i * 10 + j, none⟩ = some u := fun j u hu => by rw [World.cell?_of_block (w := w) hW]; exact hc j u hu
        exact ⟨hc' 0 _ rfl, hc' 1 _ rfl, hc' 2 _ rfl, hc' 3 _ rfl, hc' 4 _ rfl, hc' 5 _ rfl, hc' 6 _ rfl, hc' 7 _ rfl, hc' 8 _ rfl, hc' 9 _ rfl⟩
      · rw [List.getElem?_eq_none (by simpa using hi)] at hop
        cases hop
    · obtain ⟨i, hi, rfl⟩ := List.mem_map.1 hop
      exact (hfn i (List.mem_range.1 hi)).2
end
end Go.Proofs.YtigbgajelkknbaaGreatDoor
