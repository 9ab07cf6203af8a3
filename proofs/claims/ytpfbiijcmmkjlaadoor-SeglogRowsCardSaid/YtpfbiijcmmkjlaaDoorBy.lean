/- Slices of bytes: what a value reads as; appends; conversions; arguments opened. Nothing of the program but its types of bytes. -/
import Derived.Test.YtpfbiijcmmkjlaaDoorMem
import Derived.Test.YtpfbiijcmmkjlaaDoorArr
import Derived.Test.YtpfbiijcmmkjlaaDoorQuiet
import Derived.Test.YtpfbiijcmmkjlaaDoorLift
import Derived.Test.YtpfbiijcmmkjlaaDoorRows
import Derived.Test.YtpfbiijcmmkjlaaDoorProg
import Derived.WalkSpells
import Derived.WalkLawsBesides
import Derived.Lib.Hide
import Derived.IntWalk
import Derived.BigQuiet
import Derived.Deep.QuietTactic
import Derived.Deep.RegionHeldLaw
import Derived.Laws.AppendOwnNone
import Derived.Laws.BytesArg
import Derived.Lib.SlBytesConst
import Derived.ChangeSlices
import Derived.ChangeMaps
namespace Go.Proofs.YtpfbiijcmmkjlaaDoor.Fr
open Go.RowKit Go.WideShapes Go.ChangeShapes Go.ChangeAt

theorem Tryd.own : ownKnob Tryd.prog.godebug = none := by kernel_rfl
theorem Tryd.laidOut : laidOutB Tryd.prog = true := by kernel_rfl
theorem byteCells : Tryd.prog.cellsOf 5 = 1 := by kernel_rfl
theorem ret_int {k : IntKind} {a b : Int} (h : a = b) : Ending.returned (.int k a) = .returned (.int k b) := by rw [h]
theorem ret_bool {a b : Bool} (h : a = b) : Ending.returned (.bool a) = .returned (.bool b) := by rw [h]
theorem calls_world {P : Program} {f : FuncId} {args : Array Value} {W : World} {Q : Ending → World → Prop} (h : ∀ w', w' = W → Calls P f args w' Q) : Calls P f args W Q := h W rfl
theorem wp_world {P : Program} {c : Code} {Q : Exit → Act → World → Prop} {a : Act} {W : World} (h : ∀ w', w' = W → Code.wp P c Q a w') : Code.wp P c Q a W := h W rfl
theorem getD_some {l : List Int} {i : Nat} (hi : i < l.length) : l[i]? = some (l.getD i 0) := by
  rw [List.getD_eq_getElem?_getD, List.getElem?_eq_getElem hi]; rfl
/-- All these numbers are bytes. -/
def Byt (p : List Int) : Prop := ∀ z ∈ p, 0 ≤ z ∧ z ≤ 255
theorem Byt.append {p q : List Int} (h : Byt p) (k : Byt q) : Byt (p ++ q) := fun z hz => (List.mem_append.1 hz).elim (h z) (k z)
theorem Byt.take {p : List Int} (h : Byt p) (n : Nat) : Byt (p.take n) := fun z hz => h z (List.mem_of_mem_take hz)
theorem Byt.drop {p : List Int} (h : Byt p) (n : Nat) : Byt (p.drop n) := fun z hz => h z (List.mem_of_mem_drop hz)
theorem Byt.nil : Byt [] := fun z hz => by cases hz
theorem Byt.getD {p : List Int} (h : Byt p) (i : Nat) : 0 ≤ p.getD i 0 ∧ p.getD i 0 ≤ 255 := by
  rw [List.getD_eq_getElem?_getD]
  cases e : p[i]? with
  | none => exact ⟨by decide, by decide⟩
  | some z => exact h z (List.mem_of_getElem? e)
theorem Byt.flat {ps : List (List Int)} (h : ∀ i, i < ps.length → Byt (ps.getD i [])) : Byt ps.flatten := fun z hz => by
  obtain ⟨p, hp, hz⟩ := List.mem_flatten.1 hz
  obtain ⟨i, hi, rfl⟩ := List.getElem_of_mem hp
  have := h i hi
  rw [List.getD_eq_getElem?_getD, List.getElem?_eq_getElem hi] at this
  exact this z hz
theorem strOfNums_inj {p q : List Int} (hp : Byt p) (hq : Byt q) (h : strOfNums p = strOfNums q) : p = q := by
  have h1 : p.map (fun n => UInt8.ofNat n.toNat) = q.map (fun n => UInt8.ofNat n.toNat) := by rw [← strOfNums_data, ← strOfNums_data, h]
  have key : ∀ (p q : List Int), Byt p → Byt q → p.map (fun n => UInt8.ofNat n.toNat) = q.map (fun n => UInt8.ofNat n.toNat) → p = q := by
    intro p
    induction p with
    | nil => intro q _ _ h; cases q; rfl; cases h
    | cons a p ih =>
      intro q hp hq h
      cases q with
      | nil => cases h
      | cons b q =>
        simp only [List.map_cons, List.cons.injEq] at h
        have ha := hp a (by simp)
        have hb := hq b (by simp)
        have e := congrArg UInt8.toNat h.1
        simp only [UInt8.toNat_ofNat'] at e
        rw [show a = b by omega, ih q (fun z hz => hp z (by simp [hz])) (fun z hz => hq z (by simp [hz])) h.2]
  exact key p q hp hq h1
theorem strOfNums_append (p q : List Int) : strOfNums (p ++ q) = strOfNums p ++ strOfNums q := by
  apply ByteArray.ext
  rw [ByteArray.data_append]
  apply Array.toList_inj.1
  rw [Array.toList_append, strOfNums_data, strOfNums_data, strOfNums_data, List.map_append]
/-- The value v is a slice of these bytes. -/
def Bytes (w : World) (v : Value) (p : List Int) : Prop :=
  (v = .slice none 0 0 ∧ p = []) ∨ ∃ pb po cap, v = .slice (some ⟨pb, po, none⟩) p.length cap ∧ p.length ≤ cap ∧ pb < w.heap.size ∧ w.rangeAt pb po (p.map (Value.int .u8))
theorem Bytes.below {w w' : World} {v : Value} {p : List Int} (h : Bytes w v p) (hb : Below w.heap.size w w') : Bytes w' v p := by
  rcases h with h | ⟨pb, po, cap, h1, h2, h3, h4⟩
  · exact Or.inl h
  · exact Or.inr ⟨pb, po, cap, h1, h2, Nat.lt_of_lt_of_le h3 hb.size, fun j u hu => by rw [World.cell?_of_block (w := w) (hb.block pb h3)]; exact h4 j u hu⟩
/-- The same, or a slice of none, wherever it points to. -/
def BytesE (w : World) (v : Value) (p : List Int) : Prop := Bytes w v p ∨ ∃ a cap, v = .slice (some a) 0 cap ∧ p = []
theorem BytesE.below {w w' : World} {v : Value} {p : List Int} (h : BytesE w v p) (hb : Below w.heap.size w w') : BytesE w' v p :=
  h.elim (fun k => .inl (k.below hb)) .inr
/-- The value v is a slice of slices of bytes. -/
def Parts (w : World) (v : Value) (ps : List (List Int)) : Prop :=
  (v = .slice none 0 0 ∧ ps = []) ∨ ∃ qb qo cap, v = .slice (some ⟨qb, qo, none⟩) ps.length cap ∧ qb < w.heap.size ∧
    ∀ i, i < ps.length → ∃ u, w.cell? ⟨qb, qo + i, none⟩ = some u ∧ BytesE w u (ps.getD i [])
theorem flat_take_succ (ps : List (List Int)) (i : Nat) (h : i < ps.length) : (ps.take (i + 1)).flatten = (ps.take i).flatten ++ ps.getD i [] := by
  rw [List.take_succ_eq_append_getElem h, List.flatten_append, List.getD_eq_getElem?_getD, List.getElem?_eq_getElem h]; simp
theorem flat_take_le (ps : List (List Int)) (i : Nat) : ((ps.take i).flatten).length ≤ ps.flatten.length := by
  have h : ps.flatten = (ps.take i).flatten ++ (ps.drop i).flatten := by rw [← List.flatten_append, List.take_append_drop]
  rw [h, List.length_append]; omega

theorem Parts.below {w w' : World} {v : Value} {ps : List (List Int)} (h : Parts w v ps) (hb : Below w.heap.size w w') : Parts w' v ps := by
  rcases h with h | ⟨qb, qo, cap, h1, h2, h3⟩
  · exact .inl h
  · refine .inr ⟨qb, qo, cap, h1, Nat.lt_of_lt_of_le h2 hb.size, fun i hi => ?_⟩
    obtain ⟨u, h4, h5⟩ := h3 i hi
    exact ⟨u, by rw [World.cell?_of_block (w := w) (hb.block qb h2)]; exact h4, h5.below hb⟩
/-- The bytes v own just these. -/
def OwnB (w : World) (base : Nat) (v : Value) (ys : List Int) : Prop := w.ownsRow base 5 1 v ys.length (ys.map (Value.int .u8))
theorem OwnB.slice {w : World} {base : Nat} {v : Value} {ys : List Int} (h : OwnB w base v ys) : ∃ a c, v = .slice a ys.length c := by
  rcases h.2 with ⟨rfl, h0⟩ | ⟨g, cap, cur, rfl, _⟩
  · exact ⟨none, 0, by rw [h0]⟩
  · exact ⟨_, _, rfl⟩
theorem OwnB.blk {w w' : World} {base k : Nat} {v : Value} {ys : List Int} {t : TypeId} {cs : List Value} (h : OwnB w base v ys) (hg : w.grownBy w' v.ownBlock) (hk : k < base) (hb : Blk w k t cs) : Blk w' k t cs := by
  unfold Blk; rw [hg.block k hb.lt (fun e => by have := h.lt k e.symm; omega)]; exact hb
theorem byteInfo : (Tryd.prog.info? 5).map (fun i => (i.zero, i.size, i.bytes)) = some (some (.int .u8 0), 1, 1) := by kernel_rfl
theorem wpList_build_is {P : Program} {ops : Array Oper} {rest : List Oper} {o : Oper} {a : Act} {w : World} {Q : Exit → Act → World → Prop} (hg : o.guard = none) (t : TypeId) (parts : Array (Nat × Operand)) (ho : o.op = .build t parts)
    (cs : Array Value) (hf : P.built t (parts.map fun (i, x) => (i, a.eval x)).toList = some cs)
    (h : wpList P ops Q rest (a.put o.dst (.agg cs)) w) : wpList P ops Q (o :: rest) a w :=
  wpList_build hg t parts ho (by rw [hf]; rfl) (by rw [hf]; exact h)

/-- An append of bytes to what the call owns, as a step of the walk. -/
theorem wpList_append_bytes {ops : Array Oper} {rest : List Oper} {o : Oper} {a : Act} {w : World} {Q : Exit → Act → World → Prop} (hgd : o.guard = none) (s x : Operand)
    (ho : o.op = .call { callee := .builtin .append, args := #[s, x], argTypes := #[32, 32] })
    (base : Nat) (v : Value) (ys : List Int) (hs : a.eval s = v) (hown : OwnB w base v ys) (b off m c : Nat) (news : List Int) (hx : a.eval x = .slice (some ⟨b, off, none⟩) m c) (hl : news.length = m)
    (hnews : w.rangeAt b off (news.map (Value.int .u8))) (hle : ys.length + m ≤ 140737488355328) (hbase : base ≤ w.heap.size)
    (h : ∀ v' w', OwnB w' base v' (ys ++ news) → w.grownBy w' v.ownBlock → wpList Tryd.prog ops Q rest (a.put o.dst v') w') : wpList Tryd.prog ops Q (o :: rest) a w := by
  obtain ⟨i0, hi, hz0, hz1, hz2⟩ := info_parts byteInfo
  refine wpList_append_own w hgd s x 32 ho base 5 i0 (.int .u8 0) 1 1 Tryd.underlying32 hi hz0 hz1 hz2 rfl (by decide) v ys.length (ys.map (Value.int .u8)) hs hown ⟨b, off, none⟩ m c (news.map (Value.int .u8)) hx
    (by simpa using hl) (fun j u hu => by rw [Addr.add_mid]; exact hnews j u hu) (ones_int _ _) (by unfold maxLen; omega) (by omega) hbase ?_
  intro v' w' h1 h2 _
  refine h v' w' ?_ h2
  unfold OwnB
  rw [List.length_append, hl, List.map_append]; exact h1
/-- The same, from any slice of bytes that came in. -/
theorem wpList_append_bytesArg {ops : Array Oper} {rest : List Oper} {o : Oper} {a : Act} {w w0 : World} {Q : Exit → Act → World → Prop} (hgd : o.guard = none) (s x : Operand)
    (ho : o.op = .call { callee := .builtin .append, args := #[s, x], argTypes := #[32, 32] })
    (base : Nat) (v u : Value) (ys p : List Int) (hs : a.eval s = v) (hown : OwnB w base v ys) (hx : a.eval x = u) (hp : Bytes w0 u p) (hb : Below w0.heap.size w0 w) (hle : ys.length + p.length ≤ 140737488355328) (hbase : base ≤ w.heap.size)
    (h : ∀ v' w', OwnB w' base v' (ys ++ p) → w.grownBy w' v.ownBlock → wpList Tryd.prog ops Q rest (a.put o.dst v') w') : wpList Tryd.prog ops Q (o :: rest) a w := by
  rcases hp with ⟨rfl, rfl⟩ | ⟨pb, po, cap, rfl, h2, h3, h4⟩
  · obtain ⟨i0, hi, hz0, hz1, hz2⟩ := info_parts byteInfo
    refine wpList_append_own_none hgd s x 32 ho base 5 i0 1 Tryd.underlying32 hi v ys.length (ys.map (Value.int .u8)) hs hown hx ?_
    exact h v w (by rw [List.append_nil]; exact hown) ⟨rfl, rfl, rfl, Nat.le_refl _, fun _ _ _ => rfl⟩
  · exact wpList_append_bytes hgd s x ho base v ys hs hown pb po p.length cap p hx rfl (fun j y hy => by rw [World.cell?_of_block (w := w0) (hb.block pb h3)]; exact h4 j y hy) hle hbase h

theorem OwnB.below {w w' : World} {base : Nat} {v : Value} {ys : List Int} (h : OwnB w base v ys) (hg : w.grownBy w' v.ownBlock) (hb : base ≤ w.heap.size) : Below base w w' :=
  (Below.refl base w).grown hg hb fun k hk => (h.lt k hk).1
theorem OwnB.alloc {w : World} {base : Nat} {v : Value} {ys : List Int} (h : OwnB w base v ys) (o : Obj) : OwnB (w.alloc o) base v ys := World.ownsRow.alloc h o
theorem Bytes.slice' {w : World} {v : Value} {p : List Int} (h : Bytes w v p) : ∃ a c, v = .slice a p.length c := by
  rcases h with ⟨rfl, rfl⟩ | ⟨pb, po, cap, rfl, _⟩
  · exact ⟨_, _, rfl⟩
  · exact ⟨_, _, rfl⟩
theorem one_range {w : World} {x : Int} {t : TypeId} : (w.alloc (.cells #[Value.int .u8 x] t)).rangeAt w.heap.size 0 ([x].map (Value.int .u8)) := fun j u hu => by
  rw [Nat.zero_add]; exact (Blk.new w t [Value.int .u8 x]).cell hu

theorem rng_set {w : World} {b o : Nat} {cs : List Value} (h : w.rangeAt b o cs) {a : Addr} (ha : b ≠ a.block) (u : Value) : (w.setCell a u).rangeAt b o cs := fun j v hv => by
  rw [World.cell?_setCell_other _ _ _ _ (fun e => ha (by rw [e]))]; exact h j v hv
theorem rng_of {w w' : World} {b o : Nat} {cs : List Value} (h : w.rangeAt b o cs) (hb : w'.heap[b]? = w.heap[b]?) : w'.rangeAt b o cs := fun j v hv => by
  rw [World.cell?_of_block (w := w) hb]; exact h j v hv
theorem two_range {w : World} {x y : Int} {t : TypeId} : (w.alloc (.cells #[Value.int .u8 x, Value.int .u8 y] t)).rangeAt w.heap.size 0 ([x, y].map (Value.int .u8)) :=
  (Blk.new w t [Value.int .u8 x, Value.int .u8 y]).range 0 _ fun j v hv => by rw [Nat.zero_add]; exact hv
/-- The append of bytes to what the call owns, as a single step of a region that draws its order. -/
theorem step_append_bytes {ops : Array Oper} {o : Oper} {a : Act} {w : World} {K : Act → World → Prop} {Q : Exit → Act → World → Prop} {E : Prop} (hgd : o.guard = none) (s x : Operand)
    (ho : o.op = .call { callee := .builtin .append, args := #[s, x], argTypes := #[32, 32] })
    (base : Nat) (v : Value) (ys : List Int) (hs : a.eval s = v) (hown : OwnB w base v ys) (b off m c : Nat) (news : List Int) (hx : a.eval x = .slice (some ⟨b, off, none⟩) m c) (hl : news.length = m)
    (hnews : w.rangeAt b off (news.map (Value.int .u8))) (hle : ys.length + m ≤ 140737488355328) (hbase : base ≤ w.heap.size)
    (h : ∀ v' w', OwnB w' base v' (ys ++ news) → w.grownBy w' v.ownBlock → K (a.put o.dst v') w') : if Region.wanted o (yielded ops a.tmps) = true then Oper.wp Tryd.prog o a w K Q else E := by
  obtain ⟨i0, hi, hz0, hz1, hz2⟩ := info_parts byteInfo
  refine step_plain hgd (wp_append_own w s x 32 ho base 5 i0 (.int .u8 0) 1 1 Tryd.underlying32 hi hz0 hz1 hz2 rfl (by decide) v ys.length (ys.map (Value.int .u8)) hs hown ⟨b, off, none⟩ m c (news.map (Value.int .u8)) hx
    (by simpa using hl) (fun j u hu => by rw [Addr.add_mid]; exact hnews j u hu) (ones_int _ _) (by unfold maxLen; omega) (by omega) hbase ?_)
  intro v' w' h1 h2 _
  refine h v' w' ?_ h2
  unfold OwnB
  rw [List.length_append, hl, List.map_append]; exact h1
/-- The text of a slice of bytes. -/
theorem run_string {w : World} {v : Value} {p : List Int} (h : Bytes w v p) : (convert 32 9 v).run Tryd.prog w = .ok (.string (strOfNums p)) w := by
  rcases h with ⟨rfl, rfl⟩ | ⟨pb, po, cap, rfl, _, _, h4⟩
  · exact run_convert_bytes_nil w 32 5 Tryd.underlying32 Tryd.underlying5 0 0 9 Tryd.underlying9
  · refine run_convert_bytes_arg w 32 5 Tryd.underlying32 Tryd.underlying5 pb po p.length cap p rfl (fun i hi => h4 i _ ?_) 9 Tryd.underlying9
    rw [List.getElem?_map, List.getD_eq_getElem?_getD, List.getElem?_eq_getElem hi]; rfl
theorem OwnB.bytes {w : World} {base : Nat} {v : Value} {p : List Int} (h : OwnB w base v p) : Bytes w v p := by
  rcases h.2 with ⟨h0, h1⟩ | ⟨g, cap, cur, hv, _, hh, hn, _, hcs, hxs⟩
  · exact Or.inl ⟨h0, List.length_eq_zero_iff.1 h1⟩
  · refine Or.inr ⟨g, 0, cap, hv, hn, ?_, fun j u hu => ?_⟩
    · by_cases k : g < w.heap.size
      · exact k
      · rw [Array.getElem?_eq_none (by omega)] at hh; cases hh
    · rw [cell_of_row w g (0 + j) cur 5 (0, 0) hh, ← Array.getElem?_toList]
      rw [← hxs] at hu
      rw [List.getElem?_take] at hu
      split at hu
      · rw [Nat.zero_add]; exact hu
      · cases hu
theorem BytesE.slice {w : World} {v : Value} {p : List Int} (h : BytesE w v p) : ∃ a c, v = .slice a p.length c := by
  rcases h with h | ⟨a, cap, rfl, rfl⟩
  · exact h.slice'
  · exact ⟨_, _, rfl⟩
/-- An append of bytes that came in, also of none from wherever. -/
theorem wpList_append_bytesE {ops : Array Oper} {rest : List Oper} {o : Oper} {a : Act} {w w0 : World} {Q : Exit → Act → World → Prop} (hgd : o.guard = none) (s x : Operand)
    (ho : o.op = .call { callee := .builtin .append, args := #[s, x], argTypes := #[32, 32] })
    (base : Nat) (v u : Value) (ys p : List Int) (hs : a.eval s = v) (hown : OwnB w base v ys) (hx : a.eval x = u) (hp : BytesE w0 u p) (hb : Below w0.heap.size w0 w) (hle : ys.length + p.length ≤ 140737488355328) (hbase : base ≤ w.heap.size)
    (h : ∀ v' w', OwnB w' base v' (ys ++ p) → w.grownBy w' v.ownBlock → wpList Tryd.prog ops Q rest (a.put o.dst v') w') : wpList Tryd.prog ops Q (o :: rest) a w := by
  rcases hp with hp | ⟨ad, cap, rfl, rfl⟩
  · exact wpList_append_bytesArg hgd s x ho base v u ys p hs hown hx hp hb hle hbase h
  · obtain ⟨i0, hi, hz0, hz1, hz2⟩ := info_parts byteInfo
    refine wpList_append_own w hgd s x 32 ho base 5 i0 (.int .u8 0) 1 1 Tryd.underlying32 hi hz0 hz1 hz2 rfl (by decide) v ys.length (ys.map (Value.int .u8)) hs hown ad 0 cap [] hx
      rfl (fun j u hu => by simp at hu) (by simp) (by unfold maxLen; simp at hle; omega) (by simp at hle; omega) hbase ?_
    intro v' w' h1 h2 _
    refine h v' w' ?_ h2
    unfold OwnB
    simpa using h1

section
variable {H : Type} {enc : TypeId × Value → H} {P : Program}
theorem shape_lt {w : World} {b : Nat} {x : TypeId × Nat} (h : w.shape? b = some x) : b < w.heap.size := by
  by_cases k : b < w.heap.size
  · exact k
  · unfold World.shape? at h; rw [Array.getElem?_eq_none (by omega)] at h; cases h
/-- An argument that is a slice of bytes. -/
theorem open_bytes {r : Reach} {b0 : Nat} {t e : Nat} {w : World} {base : Nat} {spare : Nat → Bool} {held : Bool} {v : Value} {d : DataW H} {ps : List MemPlace}
    (ht : P.underlying t = some (.slice e)) (he : P.underlying e = some (.int .u8)) (hcE : P.cellsOf e = 1)
    (hval : Value.okWide P w r b0 t v) (hd : DataW.Trod enc P w base spare held t v d ps) : ∃ zs : List Int, Bytes w v zs ∧ zs.length < 9223372036854775808 ∧ ∀ z ∈ zs, (Lit.int .u8 z).wf = true := by
  obtain ⟨a0, len, cap, rfl⟩ := okWide_slice ht hval
  obtain ⟨fuel, hf⟩ := hd
  rcases open_ints ht he hcE hf with ⟨hcs, _⟩ | ⟨a, len', cap', zs, hcs, _, hl, hm, hz, hx, hcell, hwz⟩
  · simp [Value.cells] at hcs
    obtain ⟨rfl, rfl, rfl⟩ := hcs
    exact ⟨[], Or.inl ⟨rfl, rfl⟩, by simp, fun z hz => by cases hz⟩
  · simp [Value.cells] at hcs
    obtain ⟨rfl, rfl, rfl⟩ := hcs
    have hok : w.has P r b0 a e cap := by
      unfold Value.okWide Cell.okWide Cell.ok at hval
      rw [ht] at hval
      exact hval.2.2
    obtain ⟨_, hsp, row, cells, hsh, _⟩ := hok
    have hlz : len ≤ zs.length := by rw [hz]; split <;> omega
    have hlen : (zs.take len).length = len := by simp; omega
    obtain ⟨ab, ao, asp⟩ := a
    cases hsp
    refine ⟨zs.take len, Or.inr ⟨ab, ao, cap, by rw [hlen], by rw [hlen]; exact hl, shape_lt hsh, fun j u hu => ?_⟩, by rw [hlen]; unfold maxLen at hm; omega, fun z hz => hwz z (List.mem_of_mem_take hz)⟩
    rw [List.getElem?_map] at hu
    cases hj : (zs.take len)[j]? with
    | none => rw [hj] at hu; cases hu
    | some x =>
      rw [hj] at hu
      cases hu
      have hjl : j < len := by have := (List.getElem?_eq_some_iff.1 hj).1; omega
      have hc := hcell j (by omega)
      rw [List.getElem?_take_of_lt hjl] at hj
      rw [List.getD_eq_getElem?_getD, hj] at hc
      simpa [Addr.add] using (show w.cell? ⟨ab, ao + j, none⟩ = _ by
        have e : Addr.add ⟨ab, ao, none⟩ j = ⟨ab, ao + j, none⟩ := by unfold Addr.add; by_cases h : j = 0 <;> simp [h]
        rw [← e]; exact hc)
end

section
variable {H : Type} {enc : TypeId × Value → H} {P : Program}
theorem cells_one {w : World} {base : Nat} {a : Addr} {cs : List Value} (h : w.cells? base a 1 = some cs) : ∃ u, cs = [u] ∧ w.cell? a = some u := by
  unfold World.cells? at h
  split at h
  · cases hc : w.cell? a with
    | none => simp [Addr.add, hc] at h
    | some u => simp [Addr.add, hc] at h; exact ⟨u, h.symm, rfl⟩
  · cases h
theorem cell_plain {w : World} {a : Addr} {u : Value} (h : w.cell? a = some u) : a.spot = none ∧ a.block < w.heap.size := by
  unfold World.cell? at h
  split at h
  · rename_i c t f hh
    refine ⟨?_, ?_⟩
    · cases hs : a.spot with
      | none => rfl
      | some x => simp [hs] at h
    · by_cases k : a.block < w.heap.size
      · exact k
      · rw [Array.getElem?_eq_none (by omega)] at hh; cases hh
  · cases h
/-- What a cell of a list of lists of bytes reads as. -/
theorem bytes_of_trod {t e fuel : Nat} {w : World} {base : Nat} {spare : Nat → Bool} {held : Bool} {u : Value} {x : DataW H × List MemPlace}
    (ht : P.underlying t = some (.slice e)) (he : P.underlying e = some (.int .u8)) (hcE : P.cellsOf e = 1)
    (hf : DataW.trod enc P w base spare held fuel t [u] = some x) : ∃ zs : List Int, BytesE w u zs ∧ zs.length < 9223372036854775808 ∧ ∀ z ∈ zs, (Lit.int .u8 z).wf = true := by
  rcases open_ints ht he hcE hf with ⟨hcs, _⟩ | ⟨a, len, cap, zs, hcs, _, hl, hm, hz, hx, hcell, hwz⟩
  · simp at hcs
    exact ⟨[], .inl (.inl ⟨hcs, rfl⟩), by simp, fun z hz => by cases hz⟩
  · simp at hcs
    subst hcs
    have hlz : len ≤ zs.length := by rw [hz]; split <;> omega
    have hlen : (zs.take len).length = len := by simp; omega
    by_cases h0 : len = 0
    · subst h0
      exact ⟨[], .inr ⟨a, cap, rfl, rfl⟩, by simp, fun z hz => by cases hz⟩
    · obtain ⟨hsp, hbl⟩ := cell_plain (hcell 0 (by omega))
      obtain ⟨ab, ao, asp⟩ := a
      simp only [Addr.add, if_true] at hsp hbl
      cases hsp
      refine ⟨zs.take len, .inl (.inr ⟨ab, ao, cap, by rw [hlen], by rw [hlen]; exact hl, hbl, fun j v hv => ?_⟩), by rw [hlen]; unfold maxLen at hm; omega, fun z hz => hwz z (List.mem_of_mem_take hz)⟩
      rw [List.getElem?_map] at hv
      cases hj : (zs.take len)[j]? with
      | none => rw [hj] at hv; cases hv
      | some y =>
        rw [hj] at hv
        cases hv
        have hjl : j < len := by have := (List.getElem?_eq_some_iff.1 hj).1; omega
        have hc := hcell j (by omega)
        rw [List.getElem?_take_of_lt hjl] at hj
        rw [List.getD_eq_getElem?_getD, hj] at hc
        have e : Addr.add ⟨ab, ao, none⟩ j = ⟨ab, ao + j, none⟩ := by unfold Addr.add; by_cases h : j = 0 <;> simp [h]
        rw [← e]; exact hc
theorem exists_list {α : Type} (d : α) {Q : Nat → α → Prop} : ∀ n : Nat, (∀ i, i < n → ∃ z, Q i z) → ∃ ps : List α, ps.length = n ∧ ∀ i, i < n → Q i (ps.getD i d)
  | 0, _ => ⟨[], rfl, fun i hi => by omega⟩
  | n + 1, h => by
    obtain ⟨ps, hl, hp⟩ := exists_list d n fun i hi => h i (by omega)
    obtain ⟨z, hz⟩ := h n (by omega)
    refine ⟨ps ++ [z], by simp [hl], fun i hi => ?_⟩
    rw [List.getD_eq_getElem?_getD]
    by_cases hin : i < n
    · rw [List.getElem?_append_left (by omega), ← List.getD_eq_getElem?_getD]; exact hp i hin
    · have : i = n := by omega
      subst this
      rw [List.getElem?_append_right (by omega), hl]; simpa using hz
/-- An argument that is a list of lists of bytes. -/
theorem open_parts {r : Reach} {b0 : Nat} {T t e : Nat} {w : World} {base : Nat} {spare : Nat → Bool} {held : Bool} {v : Value} {d : DataW H} {ps : List MemPlace}
    (hT : P.underlying T = some (.slice t)) (ht : P.underlying t = some (.slice e)) (he : P.underlying e = some (.int .u8)) (hcT : P.cellsOf t = 1) (hcE : P.cellsOf e = 1)
    (hval : Value.okWide P w r b0 T v) (hd : DataW.Trod enc P w base spare held T v d ps) :
    ∃ zs : List (List Int), Parts w v zs ∧ zs.length < 9223372036854775808 ∧ ∀ i, i < zs.length → (zs.getD i []).length < 9223372036854775808 ∧ Byt (zs.getD i []) := by
  obtain ⟨a0, len, cap, rfl⟩ := okWide_slice hT hval
  obtain ⟨fuel, hf⟩ := hd
  rcases DataW.trod_slice hT hf with ⟨hcs, _⟩ | ⟨a, len', cap', elems, rest, n, _, hcs, _, hb, hl, hm, hlen, hel, _, _⟩
  · simp [Value.cells] at hcs
    obtain ⟨rfl, rfl, rfl⟩ := hcs
    exact ⟨[], .inl ⟨rfl, rfl⟩, by simp, fun i hi => by simp at hi⟩
  · simp [Value.cells] at hcs
    obtain ⟨rfl, rfl, rfl⟩ := hcs
    have hok : w.has P r b0 a t cap := by
      unfold Value.okWide Cell.okWide Cell.ok at hval
      rw [hT] at hval
      exact hval.2.2
    obtain ⟨_, hsp, row, cells, hsh, _⟩ := hok
    obtain ⟨ab, ao, asp⟩ := a
    cases hsp
    have each : ∀ i, i < len → ∃ z : List Int, (∃ u, w.cell? ⟨ab, ao + i, none⟩ = some u ∧ BytesE w u z) ∧ z.length < 9223372036854775808 ∧ Byt z := by
      intro i hi
      have h1 := hel i hi
      rw [hcT, Nat.mul_one, List.getElem?_eq_getElem (by omega), Option.bind_eq_some_iff] at h1
      obtain ⟨cs', hcs, hy⟩ := h1
      obtain ⟨u, rfl, hu⟩ := cells_one hcs
      obtain ⟨z, hz, hzl, hzw⟩ := bytes_of_trod ht he hcE hy
      have e : Addr.add ⟨ab, ao, none⟩ i = ⟨ab, ao + i, none⟩ := by unfold Addr.add; by_cases h : i = 0 <;> simp [h]
      rw [e] at hu
      exact ⟨z, ⟨u, hu, hz⟩, hzl, fun y hy => wf_u8 (hzw y hy)⟩
    obtain ⟨zs, hzl, hzs⟩ := exists_list [] len each
    exact ⟨zs, .inr ⟨ab, ao, cap, by rw [hzl], shape_lt hsh, fun i hi => (hzs i (by omega)).1⟩, by unfold maxLen at hm; omega, fun i hi => (hzs i (by omega)).2⟩
end
end Go.Proofs.YtpfbiijcmmkjlaaDoor.Fr
