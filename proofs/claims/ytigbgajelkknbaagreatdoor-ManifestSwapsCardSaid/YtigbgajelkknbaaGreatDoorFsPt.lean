/- SimfsPlays: whatever a script asks for, the file system answers as the document says. A row of numbers inside an argument, opened: it lies in memory, or nothing of it is ever read. Plain; nothing of the program. SimfsPlays, lifted to the statement: whatever is created, appended, synced, renamed and removed, however it is planned and armed, and wherever it crashes, a file system answers as the document says. For every room and every script; no condition. -/
import Derived.Test.YtigbgajelkknbaaGreatDoorFsTp
import Derived.Deep.Slices
import Derived.ChangeSame
import Derived.Test.YtigbgajelkknbaaGreatDoorLift
namespace Go.Proofs.YtigbgajelkknbaaGreatDoor
open Go.RowKit Go.Maps Go.WideMaps
set_option maxRecDepth 100000
set_option maxRecDepth 100000

/-- The script lies in memory. -/
def OpsAt (w : World) (v : Value) (ops : List OpR) : Prop :=
  (v = .slice none 0 0 ∧ ops = []) ∨ ∃ b o cap, v = .slice (some ⟨b, o, none⟩) ops.length cap ∧ b < w.heap.size ∧ ∀ (i : Nat) (op : OpR), ops[i]? = some op → ∃ dv lv, Bytes w dv op.data ∧ RPlan w lv op.nums ∧
    ∀ W : World, W.heap[b]? = w.heap[b]? → (W.cell? ⟨b, o + i * 6, none⟩ = some (.int .i64 op.kind) ∧ W.cell? ⟨b, o + i * 6 + 1, none⟩ = some (.int .i64 op.num) ∧ W.cell? ⟨b, o + i * 6 + 2, none⟩ = some (.string op.name) ∧ W.cell? ⟨b, o + i * 6 + 3, none⟩ = some (.string op.dest) ∧ W.cell? ⟨b, o + i * 6 + 4, none⟩ = some (dv) ∧ W.cell? ⟨b, o + i * 6 + 5, none⟩ = some (lv))
/-- Its numbers are a machine's. -/
def OpsOk (ops : List OpR) : Prop := ∀ op ∈ ops, op.name.size ≤ 9223372036854775807 ∧ op.dest.size ≤ 9223372036854775807 ∧ op.num ≤ 9223372036854775807 ∧ ∀ k ∈ op.nums, k ≤ 9223372036854775807
theorem OpsAt.slice {w : World} {v : Value} {ops : List OpR} (h : OpsAt w v ops) : ∃ a c, v = .slice a ops.length c := by
  rcases h with ⟨rfl, rfl⟩ | ⟨b, o, cap, rfl, _⟩
  · exact ⟨_, _, rfl⟩
  · exact ⟨_, _, rfl⟩
/-- Both file systems, the reference's in a box. -/
def Both (w0 wr : World) (b7 n : Nat) (g : Nat) (S : Nat → Prop) (A : FsA) (R : RSt) (fa : Option Addr) (fc : Nat) (da : Option Addr) (dc : Nat) (sa : Option Addr) (sc : Nat) (ca : Option Addr) (cc : Nat) (pa : Option Addr) (pc : Nat) : Prop :=
  Blk wr b7 33 [.int .i64 R.room, .slice fa R.files.length fc, .slice da R.dir.length dc, .slice sa R.sure.length sc, .slice ca R.changes.length cc, .int .i64 R.steps, .int .i64 R.left, .slice pa R.plan.length pc] ∧ RFs (fun k => ¬ S k ∧ k ≠ b7) wr (.agg #[.int .i64 R.room, .slice fa R.files.length fc, .slice da R.dir.length dc, .slice sa R.sure.length sc, .slice ca R.changes.length cc, .int .i64 R.steps, .int .i64 R.left, .slice pa R.plan.length pc]) R ∧ PF w0 wr g S A ∧ Inv A n ∧ Sim A R ∧ ¬ S b7 ∧ w0.heap.size ≤ b7
theorem sim_new (room : Int) : Sim (newA room) { emptyR with room := room, left := -1 } := by
  refine ⟨rfl, rfl, rfl, rfl, by show 0 < 1000; omega, rfl, fun b b' f f' h => (by cases h), fun b f h => (by cases h), fun x hx => (by cases hx), rfl, fun c hc => (by cases hc), fun i => ?_, fun i x hx => ?_, rfl⟩
  · have e1 : preD (newA room) i = .map [] := by unfold preD newA; simp
    have e2 : preR { emptyR with room := room, left := -1 } i = [] := by unfold preR emptyR; simp
    rw [e1, e2]
    exact ⟨List.Pairwise.nil, fun x hx => (by cases hx), fun s => .inl ⟨rfl, rfl⟩⟩
  · have e2 : preR { emptyR with room := room, left := -1 } i = [] := by unfold preR emptyR; simp
    rw [e2] at hx; cases hx
theorem Both.next {w0 w5 w6 : World} {b7 n : Nat} {S : Nat → Prop} {c0 c1 c2 c3 c4 c5 c6 c7 : Value} {g : Nat} {S6 : Nat → Prop} {A : FsA} {R : RSt} {fa : Option Addr} {fc : Nat} {da : Option Addr} {dc : Nat} {sa : Option Addr} {sc : Nat} {ca : Option Addr} {cc : Nat} {pa : Option Addr} {pc : Nat} (hk : Blk w5 b7 33 [c0, c1, c2, c3, c4, c5, c6, c7]) (hnb : ¬ S b7) (hlo : w0.heap.size ≤ b7) (hpf : PF w0 w6 g S6 A) (hI : Inv A n) (hS : Sim A R) (hr : RFs (fun k => ¬ S6 k ∧ (k ≠ b7 ∨ w5.heap.size ≤ k)) w6 (.agg #[.int .i64 R.room, .slice fa R.files.length fc, .slice da R.dir.length dc, .slice sa R.sure.length sc, .slice ca R.changes.length cc, .int .i64 R.steps, .int .i64 R.left, .slice pa R.plan.length pc]) R) (ha : Adv S S6 w5 w6) :
    Both w0 (putFS w6 b7 (.int .i64 R.room) (.slice fa R.files.length fc) (.slice da R.dir.length dc) (.slice sa R.sure.length sc) (.slice ca R.changes.length cc) (.int .i64 R.steps) (.int .i64 R.left) (.slice pa R.plan.length pc)) b7 n g S6 A R fa fc da dc sa sc ca cc pa pc := by
  obtain ⟨hk6, hn6⟩ := ha.blk hk hnb
  have hg := grown_put (w1 := w6) (b := b7) (.int .i64 R.room) (.slice fa R.files.length fc) (.slice da R.dir.length dc) (.slice sa R.sure.length sc) (.slice ca R.changes.length cc) (.int .i64 R.steps) (.int .i64 R.left) (.slice pa R.plan.length pc)
  have hlt := hk.lt
  have hq : ∀ k, (¬ S6 k ∧ (k ≠ b7 ∨ w5.heap.size ≤ k)) → ¬ S6 k ∧ k ≠ b7 := fun k h => ⟨h.1, fun e => h.2.elim (fun h => h e) fun h => by omega⟩
  exact ⟨putFS_blk hk6 (.int .i64 R.room) (.slice fa R.files.length fc) (.slice da R.dir.length dc) (.slice sa R.sure.length sc) (.slice ca R.changes.length cc) (.int .i64 R.steps) (.int .i64 R.left) (.slice pa R.plan.length pc), grown_rfs (hr.mono hq) hg (fun k hk' e => hk'.2 (Option.some.inj e).symm), hpf.grown hg (fun k e => by cases e; exact ⟨hn6, hlo⟩), hI, hS, hn6, hlo⟩
end Go.Proofs.YtigbgajelkknbaaGreatDoor
namespace Go.Proofs.YtigbgajelkknbaaGreatDoor
open Go.RowKit Go.WideShapes Go.ChangeShapes Go.Deep
set_option maxRecDepth 100000
set_option maxRecDepth 100000
section
variable {H : Type} {enc : TypeId × Value → H} {P : Program} {w : World} {base : Nat} {held : Bool}
theorem cell_here {a : Addr} {v : Value} (h : w.cell? a = some v) : a.spot = none ∧ a.block < w.heap.size := by
  refine ⟨?_, World.block_lt_of_cell? w a h⟩
  unfold World.cell? at h
  split at h
  · split at h
    · cases h
    · rename_i hs; cases hsp : a.spot <;> simp_all
  · cases h
/-- The row's numbers lie in memory; or it has room for none, and where it points is never looked at. -/
theorem open_row {t e : TypeId} {k : IntKind} {fuel : Nat} {v : Value} {x : DataW H × List MemPlace} (ht : P.underlying t = some (.slice e)) (he : P.underlying e = some (.int k)) (hc : P.cellsOf e = 1)
    (h : DataW.trod enc P w base (fun _ => true) held fuel t [v] = some x) :
    ∃ zs : List Int, (∀ z ∈ zs, (Lit.int k z).wf = true) ∧ ((v = .slice none 0 0 ∧ zs = []) ∨ (∃ a, v = .slice (some a) 0 0 ∧ zs = []) ∨
      ∃ pb po cap, v = .slice (some ⟨pb, po, none⟩) zs.length cap ∧ zs.length ≤ cap ∧ pb < w.heap.size ∧ w.rangeAt pb po (zs.map (Value.int k))) := by
  rcases open_ints ht he hc h with ⟨hcs, _⟩ | ⟨a, len, cap, zs, hcs, _, hl, hm, hz, hx, hcell, hwz⟩
  · simp at hcs
    exact ⟨[], fun z hz => (by cases hz), .inl ⟨hcs, rfl⟩⟩
  · simp at hcs
    subst hcs
    simp at hz
    by_cases h0 : cap = 0
    · subst h0
      obtain rfl : len = 0 := by omega
      exact ⟨[], fun z hz => (by cases hz), .inr (.inl ⟨a, rfl, rfl⟩)⟩
    · obtain ⟨ab, ao, asp⟩ := a
      have h1 := hcell 0 (by omega)
      obtain ⟨hsp, hlt⟩ := cell_here h1
      have e0 : Addr.add ⟨ab, ao, asp⟩ 0 = ⟨ab, ao, asp⟩ := by unfold Addr.add; simp
      rw [e0] at hsp hlt
      cases hsp
      have hlen : (zs.take len).length = len := by simp; omega
      refine ⟨zs.take len, fun z hz => hwz z (List.mem_of_mem_take hz), .inr (.inr ⟨ab, ao, cap, by rw [hlen], by omega, hlt, fun j u hu => ?_⟩)⟩
      rw [List.getElem?_map] at hu
      cases hj : (zs.take len)[j]? with
      | none => rw [hj] at hu; cases hu
      | some y =>
        rw [hj] at hu
        cases hu
        have hjl : j < len := by have := (List.getElem?_eq_some_iff.1 hj).1; omega
        have hcj := hcell j (by omega)
        rw [List.getElem?_take_of_lt hjl] at hj
        rw [List.getD_eq_getElem?_getD, hj] at hcj
        have e : Addr.add ⟨ab, ao, none⟩ j = ⟨ab, ao + j, none⟩ := by unfold Addr.add; by_cases h : j = 0 <;> simp [h]
        rw [← e]; exact hcj
/-- Such a row. -/
def Row (w : World) (v : Value) (k : IntKind) (zs : List Int) : Prop := (v = .slice none 0 0 ∧ zs = []) ∨ (∃ a, v = .slice (some a) 0 0 ∧ zs = []) ∨
  ∃ pb po cap, v = .slice (some ⟨pb, po, none⟩) zs.length cap ∧ zs.length ≤ cap ∧ pb < w.heap.size ∧ w.rangeAt pb po (zs.map (Value.int k))
end
theorem opCells : Tryz.prog.cellsOf 39 = 6 := by kernel_rfl
theorem opCellsI : Tryz.prog.cellsOf 3 = 1 := by kernel_rfl
theorem opCellsS : Tryz.prog.cellsOf 9 = 1 := by kernel_rfl
theorem opCellsB : Tryz.prog.cellsOf 37 = 1 := by kernel_rfl
theorem opCellsL : Tryz.prog.cellsOf 23 = 1 := by kernel_rfl
theorem opCellsU : Tryz.prog.cellsOf 5 = 1 := by kernel_rfl
theorem wf_max {z : Int} (h : (Lit.int .i64 z).wf = true) : z ≤ 9223372036854775807 := by
  simp only [Lit.wf, Bool.and_eq_true, decide_eq_true_eq] at h
  have e : IntKind.i64.max = 9223372036854775807 := by decide
  rw [e] at h
  exact h.2
section
variable {H : Type} {enc : TypeId × Value → H} {w : World} {base : Nat} {held : Bool}
set_option maxRecDepth 100000 in
theorem open_op {fuel : Nat} {cs : List Value} {y : DataW H × List MemPlace} (h : DataW.trod enc Tryz.prog w base (fun _ => true) held fuel 39 cs = some y) :
    ∃ (op : OpR) (dv lv : Value), cs = [.int .i64 op.kind, .int .i64 op.num, .string op.name, .string op.dest, dv, lv] ∧ Row w dv .u8 op.data ∧ Row w lv .i64 op.nums ∧
      op.name.size ≤ 9223372036854775807 ∧ op.dest.size ≤ 9223372036854775807 ∧ op.num ≤ 9223372036854775807 ∧ ∀ k ∈ op.nums, k ≤ 9223372036854775807 := by
  obtain ⟨xs, k, _, _, hcl, hxl, hf⟩ := DataW.trod_struct Tryz.underlying39 h
  rw [opCells] at hcl
  match xs, hxl, cs, hcl with
  | [y0, y1, y2, y3, y4, y5], _, [v0, v1, v2, v3, v4, v5], _ =>
    have g0 := hf 0 _ rfl
    have g1 := hf 1 _ rfl
    have g2 := hf 2 _ rfl
    have g3 := hf 3 _ rfl
    have g4 := hf 4 _ rfl
    have g5 := hf 5 _ rfl
    simp [opCellsI, opCellsS, opCellsB, opCellsL] at g0 g1 g2 g3 g4 g5
    obtain ⟨n0, e0, _, w0⟩ := DataW.trod_int Tryz.underlying3 g0
    obtain ⟨n1, e1, _, w1⟩ := DataW.trod_int Tryz.underlying3 g1
    obtain ⟨s2, e2, _, w2⟩ := DataW.trod_string Tryz.underlying9 g2
    obtain ⟨s3, e3, _, w3⟩ := DataW.trod_string Tryz.underlying9 g3
    obtain ⟨zd, _, hd⟩ := open_row Tryz.underlying37 Tryz.underlying5 opCellsU g4
    obtain ⟨zl, wl, hl⟩ := open_row Tryz.underlying23 Tryz.underlying3 opCellsI g5
    simp at e0 e1 e2 e3
    subst e0 e1 e2 e3
    unfold maxLen at w2 w3
    exact ⟨⟨n0, n1, s2, s3, zd, zl⟩, v4, v5, rfl, hd, hl, by show s2.size ≤ _; omega, by show s3.size ≤ _; omega, wf_max w1, fun k hk => wf_max (wl k hk)⟩
/-- The script lies in memory; a row with room for none may point anywhere. -/
def OpsRow (w : World) (v : Value) (ops : List OpR) : Prop :=
  (v = .slice none 0 0 ∧ ops = []) ∨ ∃ b o cap, v = .slice (some ⟨b, o, none⟩) ops.length cap ∧ b < w.heap.size ∧ ∀ (i : Nat) (op : OpR), ops[i]? = some op → ∃ dv lv, Row w dv .u8 op.data ∧ Row w lv .i64 op.nums ∧
    ∀ W : World, W.heap[b]? = w.heap[b]? → (W.cell? ⟨b, o + i * 6, none⟩ = some (.int .i64 op.kind) ∧ W.cell? ⟨b, o + i * 6 + 1, none⟩ = some (.int .i64 op.num) ∧ W.cell? ⟨b, o + i * 6 + 2, none⟩ = some (.string op.name) ∧ W.cell? ⟨b, o + i * 6 + 3, none⟩ = some (.string op.dest) ∧ W.cell? ⟨b, o + i * 6 + 4, none⟩ = some (dv) ∧ W.cell? ⟨b, o + i * 6 + 5, none⟩ = some (lv))
instance : Inhabited OpR := ⟨⟨0, 0, .empty, .empty, [], []⟩⟩
end
end Go.Proofs.YtigbgajelkknbaaGreatDoor
namespace Go.Proofs.YtigbgajelkknbaaGreatDoor
open Go.RowKit Go.WideShapes Go.ChangeShapes Go.ChangeAt
set_option maxRecDepth 100000
set_option maxRecDepth 100000
theorem OpsRow.isAt {w : World} {v : Value} {ops : List OpR} (h : OpsRow w v ops) : OpsAt w v ops := h

end Go.Proofs.YtigbgajelkknbaaGreatDoor
