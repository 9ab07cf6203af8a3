/- Slices of bytes: what a value reads as; appends; conversions; arguments opened. Nothing of the program but its types of bytes. The sum of bytes, over plain numbers: eight moves, a table's step, and that they are one. Nothing of the program. Package frame: its small functions: eight moves, the table, a number's bytes, a kind. Package frame: a number out of bytes; a kind; the size of parts; the sum. -/
import Derived.Test.YtkdjkmnalkalpaaGreatDoorQuiet
import Derived.Test.YtkdjkmnalkalpaaGreatDoorLift
import Derived.Test.YtkdjkmnalkalpaaGreatDoorRows
import Derived.Test.YtkdjkmnalkalpaaGreatDoorProg
import Derived.WalkSpells
import Derived.WalkLawsBesides
import Derived.Lib.Hide
import Derived.IntWalk
import Derived.BigQuiet
import Derived.Deep.QuietTactic
import Derived.Deep.RegionHeldLaw
import Derived.Laws.AppendOwnNone
import Derived.Laws.BytesArg
import Derived.Lib.SlBytesConst
import Derived.ChangeSlices
import Derived.ChangeMaps
import Derived.WalkKit
import Derived.Laws.BitsAllLaws
namespace Go.Proofs.YtkdjkmnalkalpaaGreatDoor.Fr
open Go.RowKit Go.WideShapes Go.ChangeShapes Go.ChangeAt
set_option maxRecDepth 100000

theorem Tryz.own : ownKnob Tryz.prog.godebug = none := by kernel_rfl
theorem Tryz.laidOut : laidOutB Tryz.prog = true := by kernel_rfl
theorem ret_int {k : IntKind} {a b : Int} (h : a = b) : Ending.returned (.int k a) = .returned (.int k b) := by rw [h]
theorem ret_bool {a b : Bool} (h : a = b) : Ending.returned (.bool a) = .returned (.bool b) := by rw [h]
theorem calls_world {P : Program} {f : FuncId} {args : Array Value} {W : World} {Q : Ending → World → Prop} (h : ∀ w', w' = W → Calls P f args w' Q) : Calls P f args W Q := h W rfl
theorem wp_world {P : Program} {c : Code} {Q : Exit → Act → World → Prop} {a : Act} {W : World} (h : ∀ w', w' = W → Code.wp P c Q a w') : Code.wp P c Q a W := h W rfl
theorem getD_some {l : List Int} {i : Nat} (hi : i < l.length) : l[i]? = some (l.getD i 0) := by
  rw [List.getD_eq_getElem?_getD, List.getElem?_eq_getElem hi]; rfl
def Byt (p : List Int) : Prop := ∀ z ∈ p, 0 ≤ z ∧ z ≤ 255
theorem Byt.append {p q : List Int} (h : Byt p) (k : Byt q) : Byt (p ++ q) := fun z hz => (List.mem_append.1 hz).elim (h z) (k z)
theorem Byt.take {p : List Int} (h : Byt p) (n : Nat) : Byt (p.take n) := fun z hz => h z (List.mem_of_mem_take hz)
theorem Byt.drop {p : List Int} (h : Byt p) (n : Nat) : Byt (p.drop n) := fun z hz => h z (List.mem_of_mem_drop hz)
theorem Byt.nil : Byt [] := fun z hz => by cases hz
theorem Byt.getD {p : List Int} (h : Byt p) (i : Nat) : 0 ≤ p.getD i 0 ∧ p.getD i 0 ≤ 255 := by
  rw [List.getD_eq_getElem?_getD]
  cases e : p[i]? with
  | none => exact ⟨by decide, by decide⟩
  | some z => exact h z (List.mem_of_getElem? e)
theorem Byt.flat {ps : List (List Int)} (h : ∀ i, i < ps.length → Byt (ps.getD i [])) : Byt ps.flatten := fun z hz => by
  obtain ⟨p, hp, hz⟩ := List.mem_flatten.1 hz
  obtain ⟨i, hi, rfl⟩ := List.getElem_of_mem hp
  have := h i hi
  rw [List.getD_eq_getElem?_getD, List.getElem?_eq_getElem hi] at this
  exact this z hz
theorem strOfNums_inj {p q : List Int} (hp : Byt p) (hq : Byt q) (h : strOfNums p = strOfNums q) : p = q := by
  have h1 : p.map (fun n => UInt8.ofNat n.toNat) = q.map (fun n => UInt8.ofNat n.toNat) := by rw [← strOfNums_data, ← strOfNums_data, h]
  have key : ∀ (p q : List Int), Byt p → Byt q → p.map (fun n => UInt8.ofNat n.toNat) = q.map (fun n => UInt8.ofNat n.toNat) → p = q := by
    intro p
    induction p with
    | nil => intro q _ _ h; cases q; rfl; cases h
    | cons a p ih =>
      intro q hp hq h
      cases q with
      | nil => cases h
      | cons b q =>
        simp only [List.map_cons, List.cons.injEq] at h
        have ha := hp a (by simp)
        have hb := hq b (by simp)
        have e := congrArg UInt8.toNat h.1
        simp only [UInt8.toNat_ofNat'] at e
        rw [show a = b by omega, ih q (fun z hz => hp z (by simp [hz])) (fun z hz => hq z (by simp [hz])) h.2]
  exact key p q hp hq h1
theorem strOfNums_append (p q : List Int) : strOfNums (p ++ q) = strOfNums p ++ strOfNums q := by
  apply ByteArray.ext
  rw [ByteArray.data_append]
  apply Array.toList_inj.1
  rw [Array.toList_append, strOfNums_data, strOfNums_data, strOfNums_data, List.map_append]
def Bytes (w : World) (v : Value) (p : List Int) : Prop :=
  (v = .slice none 0 0 ∧ p = []) ∨ ∃ pb po cap, v = .slice (some ⟨pb, po, none⟩) p.length cap ∧ p.length ≤ cap ∧ pb < w.heap.size ∧ w.rangeAt pb po (p.map (Value.int .u8))
theorem Bytes.below {w w' : World} {v : Value} {p : List Int} (h : Bytes w v p) (hb : Below w.heap.size w w') : Bytes w' v p := by
  rcases h with h | ⟨pb, po, cap, h1, h2, h3, h4⟩
  · exact Or.inl h
  · exact Or.inr ⟨pb, po, cap, h1, h2, Nat.lt_of_lt_of_le h3 hb.size, fun j u hu => by rw [World.cell?_of_block (w := w) (hb.block pb h3)]; exact h4 j u hu⟩
def BytesE (w : World) (v : Value) (p : List Int) : Prop := Bytes w v p ∨ ∃ a cap, v = .slice (some a) 0 cap ∧ p = []
theorem BytesE.below {w w' : World} {v : Value} {p : List Int} (h : BytesE w v p) (hb : Below w.heap.size w w') : BytesE w' v p :=
  h.elim (fun k => .inl (k.below hb)) .inr
def Parts (w : World) (v : Value) (ps : List (List Int)) : Prop :=
  ((v = .slice none 0 0 ∨ ∃ a, v = .slice (some a) 0 0) ∧ ps = []) ∨ ∃ qb qo cap, v = .slice (some ⟨qb, qo, none⟩) ps.length cap ∧ qb < w.heap.size ∧
    ∀ i, i < ps.length → ∃ u, w.cell? ⟨qb, qo + i, none⟩ = some u ∧ BytesE w u (ps.getD i [])
theorem flat_take_succ (ps : List (List Int)) (i : Nat) (h : i < ps.length) : (ps.take (i + 1)).flatten = (ps.take i).flatten ++ ps.getD i [] := by
  rw [List.take_succ_eq_append_getElem h, List.flatten_append, List.getD_eq_getElem?_getD, List.getElem?_eq_getElem h]; simp
theorem flat_take_le (ps : List (List Int)) (i : Nat) : ((ps.take i).flatten).length ≤ ps.flatten.length := by
  have h : ps.flatten = (ps.take i).flatten ++ (ps.drop i).flatten := by rw [← List.flatten_append, List.take_append_drop]
  rw [h, List.length_append]; omega

theorem Parts.below {w w' : World} {v : Value} {ps : List (List Int)} (h : Parts w v ps) (hb : Below w.heap.size w w') : Parts w' v ps := by
  rcases h with h | ⟨qb, qo, cap, h1, h2, h3⟩
  · exact .inl h
  · refine .inr ⟨qb, qo, cap, h1, Nat.lt_of_lt_of_le h2 hb.size, fun i hi => ?_⟩
    obtain ⟨u, h4, h5⟩ := h3 i hi
    exact ⟨u, by rw [World.cell?_of_block (w := w) (hb.block qb h2)]; exact h4, h5.below hb⟩
def OwnB (w : World) (base : Nat) (v : Value) (ys : List Int) : Prop := w.ownsRow base 5 1 v ys.length (ys.map (Value.int .u8))
theorem OwnB.slice {w : World} {base : Nat} {v : Value} {ys : List Int} (h : OwnB w base v ys) : ∃ a c, v = .slice a ys.length c := by
  rcases h.2 with ⟨rfl, h0⟩ | ⟨g, cap, cur, rfl, _⟩
  · exact ⟨none, 0, by rw [h0]⟩
  · exact ⟨_, _, rfl⟩
theorem byteInfo : (Tryz.prog.info? 5).map (fun i => (i.zero, i.size, i.bytes)) = some (some (.int .u8 0), 1, 1) := by kernel_rfl
theorem wpList_append_bytes {ops : Array Oper} {rest : List Oper} {o : Oper} {a : Act} {w : World} {Q : Exit → Act → World → Prop} (hgd : o.guard = none) (s x : Operand)
    (ho : o.op = .call { callee := .builtin .append, args := #[s, x], argTypes := #[38, 38] })
    (base : Nat) (v : Value) (ys : List Int) (hs : a.eval s = v) (hown : OwnB w base v ys) (b off m c : Nat) (news : List Int) (hx : a.eval x = .slice (some ⟨b, off, none⟩) m c) (hl : news.length = m)
    (hnews : w.rangeAt b off (news.map (Value.int .u8))) (hle : ys.length + m ≤ 140737488355328) (hbase : base ≤ w.heap.size)
    (h : ∀ v' w', OwnB w' base v' (ys ++ news) → w.grownBy w' v.ownBlock → wpList Tryz.prog ops Q rest (a.put o.dst v') w') : wpList Tryz.prog ops Q (o :: rest) a w := by
  obtain ⟨i0, hi, hz0, hz1, hz2⟩ := info_parts byteInfo
  refine wpList_append_own w hgd s x 38 ho base 5 i0 (.int .u8 0) 1 1 Tryz.underlying38 hi hz0 hz1 hz2 rfl (by decide) v ys.length (ys.map (Value.int .u8)) hs hown ⟨b, off, none⟩ m c (news.map (Value.int .u8)) hx
    (by simpa using hl) (fun j u hu => by rw [Addr.add_mid]; exact hnews j u hu) (ones_int _ _) (by unfold maxLen; omega) (by omega) hbase ?_
  intro v' w' h1 h2 _
  refine h v' w' ?_ h2
  unfold OwnB
  rw [List.length_append, hl, List.map_append]; exact h1
theorem wpList_append_bytesArg {ops : Array Oper} {rest : List Oper} {o : Oper} {a : Act} {w w0 : World} {Q : Exit → Act → World → Prop} (hgd : o.guard = none) (s x : Operand)
    (ho : o.op = .call { callee := .builtin .append, args := #[s, x], argTypes := #[38, 38] })
    (base : Nat) (v u : Value) (ys p : List Int) (hs : a.eval s = v) (hown : OwnB w base v ys) (hx : a.eval x = u) (hp : Bytes w0 u p) (hb : Below w0.heap.size w0 w) (hle : ys.length + p.length ≤ 140737488355328) (hbase : base ≤ w.heap.size)
    (h : ∀ v' w', OwnB w' base v' (ys ++ p) → w.grownBy w' v.ownBlock → wpList Tryz.prog ops Q rest (a.put o.dst v') w') : wpList Tryz.prog ops Q (o :: rest) a w := by
  rcases hp with ⟨rfl, rfl⟩ | ⟨pb, po, cap, rfl, h2, h3, h4⟩
  · obtain ⟨i0, hi, hz0, hz1, hz2⟩ := info_parts byteInfo
    refine wpList_append_own_none hgd s x 38 ho base 5 i0 1 Tryz.underlying38 hi v ys.length (ys.map (Value.int .u8)) hs hown hx ?_
    exact h v w (by rw [List.append_nil]; exact hown) ⟨rfl, rfl, rfl, Nat.le_refl _, fun _ _ _ => rfl⟩
  · exact wpList_append_bytes hgd s x ho base v ys hs hown pb po p.length cap p hx rfl (fun j y hy => by rw [World.cell?_of_block (w := w0) (hb.block pb h3)]; exact h4 j y hy) hle hbase h

theorem OwnB.below {w w' : World} {base : Nat} {v : Value} {ys : List Int} (h : OwnB w base v ys) (hg : w.grownBy w' v.ownBlock) (hb : base ≤ w.heap.size) : Below base w w' :=
  (Below.refl base w).grown hg hb fun k hk => (h.lt k hk).1
theorem OwnB.alloc {w : World} {base : Nat} {v : Value} {ys : List Int} (h : OwnB w base v ys) (o : Obj) : OwnB (w.alloc o) base v ys := World.ownsRow.alloc h o
theorem Bytes.slice' {w : World} {v : Value} {p : List Int} (h : Bytes w v p) : ∃ a c, v = .slice a p.length c := by
  rcases h with ⟨rfl, rfl⟩ | ⟨pb, po, cap, rfl, _⟩
  · exact ⟨_, _, rfl⟩
  · exact ⟨_, _, rfl⟩
theorem one_range {w : World} {x : Int} {t : TypeId} : (w.alloc (.cells #[Value.int .u8 x] t)).rangeAt w.heap.size 0 ([x].map (Value.int .u8)) := fun j u hu => by
  rw [Nat.zero_add]; exact (Blk.new w t [Value.int .u8 x]).cell hu

theorem run_string {w : World} {v : Value} {p : List Int} (h : Bytes w v p) : (convert 38 9 v).run Tryz.prog w = .ok (.string (strOfNums p)) w := by
  rcases h with ⟨rfl, rfl⟩ | ⟨pb, po, cap, rfl, _, _, h4⟩
  · exact run_convert_bytes_nil w 38 5 Tryz.underlying38 Tryz.underlying5 0 0 9 Tryz.underlying9
  · refine run_convert_bytes_arg w 38 5 Tryz.underlying38 Tryz.underlying5 pb po p.length cap p rfl (fun i hi => h4 i _ ?_) 9 Tryz.underlying9
    rw [List.getElem?_map, List.getD_eq_getElem?_getD, List.getElem?_eq_getElem hi]; rfl
theorem OwnB.bytes {w : World} {base : Nat} {v : Value} {p : List Int} (h : OwnB w base v p) : Bytes w v p := by
  rcases h.2 with ⟨h0, h1⟩ | ⟨g, cap, cur, hv, _, hh, hn, _, hcs, hxs⟩
  · exact Or.inl ⟨h0, List.length_eq_zero_iff.1 h1⟩
  · refine Or.inr ⟨g, 0, cap, hv, hn, ?_, fun j u hu => ?_⟩
    · by_cases k : g < w.heap.size
      · exact k
      · rw [Array.getElem?_eq_none (by omega)] at hh; cases hh
    · rw [cell_of_row w g (0 + j) cur 5 (0, 0) hh, ← Array.getElem?_toList]
      rw [← hxs] at hu
      rw [List.getElem?_take] at hu
      split at hu
      · rw [Nat.zero_add]; exact hu
      · cases hu
theorem BytesE.slice {w : World} {v : Value} {p : List Int} (h : BytesE w v p) : ∃ a c, v = .slice a p.length c := by
  rcases h with h | ⟨a, cap, rfl, rfl⟩
  · exact h.slice'
  · exact ⟨_, _, rfl⟩
theorem wpList_append_bytesE {ops : Array Oper} {rest : List Oper} {o : Oper} {a : Act} {w w0 : World} {Q : Exit → Act → World → Prop} (hgd : o.guard = none) (s x : Operand)
    (ho : o.op = .call { callee := .builtin .append, args := #[s, x], argTypes := #[38, 38] })
    (base : Nat) (v u : Value) (ys p : List Int) (hs : a.eval s = v) (hown : OwnB w base v ys) (hx : a.eval x = u) (hp : BytesE w0 u p) (hb : Below w0.heap.size w0 w) (hle : ys.length + p.length ≤ 140737488355328) (hbase : base ≤ w.heap.size)
    (h : ∀ v' w', OwnB w' base v' (ys ++ p) → w.grownBy w' v.ownBlock → wpList Tryz.prog ops Q rest (a.put o.dst v') w') : wpList Tryz.prog ops Q (o :: rest) a w := by
  rcases hp with hp | ⟨ad, cap, rfl, rfl⟩
  · exact wpList_append_bytesArg hgd s x ho base v u ys p hs hown hx hp hb hle hbase h
  · obtain ⟨i0, hi, hz0, hz1, hz2⟩ := info_parts byteInfo
    refine wpList_append_own w hgd s x 38 ho base 5 i0 (.int .u8 0) 1 1 Tryz.underlying38 hi hz0 hz1 hz2 rfl (by decide) v ys.length (ys.map (Value.int .u8)) hs hown ad 0 cap [] hx
      rfl (fun j u hu => by simp at hu) (by simp) (by unfold maxLen; simp at hle; omega) (by simp at hle; omega) hbase ?_
    intro v' w' h1 h2 _
    refine h v' w' ?_ h2
    unfold OwnB
    simpa using h1

section
variable {H : Type} {enc : TypeId × Value → H} {P : Program}
theorem shape_lt {w : World} {b : Nat} {x : TypeId × Nat} (h : w.shape? b = some x) : b < w.heap.size := by
  by_cases k : b < w.heap.size
  · exact k
  · unfold World.shape? at h; rw [Array.getElem?_eq_none (by omega)] at h; cases h
theorem open_bytes {r : Reach} {b0 : Nat} {t e : Nat} {w : World} {base : Nat} {spare : Nat → Bool} {held : Bool} {v : Value} {d : DataW H} {ps : List MemPlace}
    (ht : P.underlying t = some (.slice e)) (he : P.underlying e = some (.int .u8)) (hcE : P.cellsOf e = 1)
    (hval : Value.okWide P w r b0 t v) (hd : DataW.Trod enc P w base spare held t v d ps) : ∃ zs : List Int, Bytes w v zs ∧ zs.length < 9223372036854775808 ∧ ∀ z ∈ zs, (Lit.int .u8 z).wf = true := by
  obtain ⟨a0, len, cap, rfl⟩ := okWide_slice ht hval
  obtain ⟨fuel, hf⟩ := hd
  rcases open_ints ht he hcE hf with ⟨hcs, _⟩ | ⟨a, len', cap', zs, hcs, _, hl, hm, hz, hx, hcell, hwz⟩
  · simp [Value.cells] at hcs
    obtain ⟨rfl, rfl, rfl⟩ := hcs
    exact ⟨[], Or.inl ⟨rfl, rfl⟩, by simp, fun z hz => by cases hz⟩
  · simp [Value.cells] at hcs
    obtain ⟨rfl, rfl, rfl⟩ := hcs
    have hok : w.has P r b0 a e cap := by
      unfold Value.okWide Cell.okWide Cell.ok at hval
      rw [ht] at hval
      exact hval.2.2
    obtain ⟨_, hsp, row, cells, hsh, _⟩ := hok
    have hlz : len ≤ zs.length := by rw [hz]; split <;> omega
    have hlen : (zs.take len).length = len := by simp; omega
    obtain ⟨ab, ao, asp⟩ := a
    cases hsp
    refine ⟨zs.take len, Or.inr ⟨ab, ao, cap, by rw [hlen], by rw [hlen]; exact hl, shape_lt hsh, fun j u hu => ?_⟩, by rw [hlen]; unfold maxLen at hm; omega, fun z hz => hwz z (List.mem_of_mem_take hz)⟩
    rw [List.getElem?_map] at hu
    cases hj : (zs.take len)[j]? with
    | none => rw [hj] at hu; cases hu
    | some x =>
      rw [hj] at hu
      cases hu
      have hjl : j < len := by have := (List.getElem?_eq_some_iff.1 hj).1; omega
      have hc := hcell j (by omega)
      rw [List.getElem?_take_of_lt hjl] at hj
      rw [List.getD_eq_getElem?_getD, hj] at hc
      simpa [Addr.add] using (show w.cell? ⟨ab, ao + j, none⟩ = _ by
        have e : Addr.add ⟨ab, ao, none⟩ j = ⟨ab, ao + j, none⟩ := by unfold Addr.add; by_cases h : j = 0 <;> simp [h]
        rw [← e]; exact hc)
end

section
variable {H : Type} {enc : TypeId × Value → H} {P : Program}
theorem exists_list {α : Type} (d : α) {Q : Nat → α → Prop} : ∀ n : Nat, (∀ i, i < n → ∃ z, Q i z) → ∃ ps : List α, ps.length = n ∧ ∀ i, i < n → Q i (ps.getD i d)
  | 0, _ => ⟨[], rfl, fun i hi => by omega⟩
  | n + 1, h => by
    obtain ⟨ps, hl, hp⟩ := exists_list d n fun i hi => h i (by omega)
    obtain ⟨z, hz⟩ := h n (by omega)
    refine ⟨ps ++ [z], by simp [hl], fun i hi => ?_⟩
    rw [List.getD_eq_getElem?_getD]
    by_cases hin : i < n
    · rw [List.getElem?_append_left (by omega), ← List.getD_eq_getElem?_getD]; exact hp i hin
    · have : i = n := by omega
      subst this
      rw [List.getElem?_append_right (by omega), hl]; simpa using hz
end
end Go.Proofs.YtkdjkmnalkalpaaGreatDoor.Fr
namespace Go.Proofs.YtkdjkmnalkalpaaGreatDoor.Fr
open Go.RowKit
set_option maxRecDepth 100000
def m1 (n : Nat) : Nat := if n % 2 = 1 then (n / 2) ^^^ 2197175160 else n / 2
def mv : Nat → Nat → Nat
  | 0, n => n
  | k + 1, n => m1 (mv k n)
def m8 (n : Nat) : Nat := mv 8 n
theorem xor_mod2 (a b : Nat) : (a ^^^ b) % 2 = (a % 2 + b % 2) % 2 := by
  have h := Nat.xor_mod_two_eq_one (a := a) (b := b)
  omega
theorem xor_div2 (a b : Nat) : (a ^^^ b) / 2 = a / 2 ^^^ b / 2 := by
  have := Nat.shiftRight_xor_distrib (i := 1) (a := a) (b := b)
  simpa [Nat.shiftRight_eq_div_pow] using this
theorem m1_xor (a b : Nat) : m1 (a ^^^ b) = m1 a ^^^ m1 b := by
  unfold m1
  rw [xor_mod2, xor_div2]
  rcases Nat.mod_two_eq_zero_or_one a with ha | ha <;> rcases Nat.mod_two_eq_zero_or_one b with hb | hb
  · simp [ha, hb]
  · simp [ha, hb, Nat.xor_assoc]
  · simp only [ha, hb]; simp; rw [Nat.xor_assoc, Nat.xor_assoc, Nat.xor_comm (b / 2)]
  · simp only [ha, hb]; simp; rw [Nat.xor_assoc (a / 2), Nat.xor_comm 2197175160, Nat.xor_assoc (b / 2), Nat.xor_self, Nat.xor_zero]
theorem mv_xor (a b : Nat) : ∀ k, mv k (a ^^^ b) = mv k a ^^^ mv k b
  | 0 => rfl
  | k + 1 => by rw [mv, mv, mv, mv_xor a b k, m1_xor]
theorem mv_pow (h : Nat) : ∀ k j, mv k (h * 2 ^ (k + j)) = h * 2 ^ j
  | 0, j => by simp [mv]
  | k + 1, j => by
    rw [mv, show k + 1 + j = k + (j + 1) by omega, mv_pow h k (j + 1), Nat.pow_succ, ← Nat.mul_assoc]
    unfold m1
    rw [if_neg (by omega)]; omega
theorem m8_split (c x : Nat) : m8 (c ^^^ x) = c / 256 ^^^ m8 ((c % 256) ^^^ x) := by
  have e : c = (c / 256 * 2 ^ (8 + 0)) ^^^ (c % 256) := by
    have h := Nat.two_pow_add_eq_or_of_lt (i := 8) (b := c % 256) (by omega) (c / 256)
    have h2 : 2 ^ 8 * (c / 256) ||| c % 256 = 2 ^ 8 * (c / 256) ^^^ c % 256 := by
      apply Nat.eq_of_testBit_eq
      intro i
      rw [Nat.testBit_or, Nat.testBit_xor, Nat.testBit_two_pow_mul]
      by_cases hi : i < 8
      · simp [show ¬ 8 ≤ i by omega]
      · have : (c % 256).testBit i = false := Nat.testBit_lt_two_pow (Nat.lt_of_lt_of_le (show c % 256 < 2 ^ 8 by omega) (Nat.pow_le_pow_right (by omega) (by omega)))
        simp [this]
    have h3 : 2 ^ 8 * (c / 256) + c % 256 = c := by omega
    rw [Nat.mul_comm (c / 256), Nat.add_zero, ← h2, ← h, h3]
  have h1 : m8 (c ^^^ x) = mv 8 (c / 256 * 2 ^ (8 + 0)) ^^^ mv 8 ((c % 256) ^^^ x) := by
    unfold m8; rw [← mv_xor, ← Nat.xor_assoc, ← e]
  rw [h1, mv_pow]; simp [m8]
def crcN (c : Nat) (p : List Int) : Nat := p.foldl (fun c x => m8 (c ^^^ x.toNat)) c
theorem crcN_append (c : Nat) (p q : List Int) : crcN c (p ++ q) = crcN (crcN c p) q := by unfold crcN; rw [List.foldl_append]
theorem m1_lt {n : Nat} (h : n < 4294967296) : m1 n < 4294967296 := by
  unfold m1; split
  · exact Nat.xor_lt_two_pow (n := 32) (by omega) (by decide)
  · omega
theorem mv_lt {n : Nat} (h : n < 4294967296) : ∀ k, mv k n < 4294967296
  | 0 => h
  | k + 1 => m1_lt (mv_lt h k)
theorem m8_lt {n : Nat} (h : n < 4294967296) : m8 n < 4294967296 := mv_lt h 8
theorem crcN_lt {c : Nat} (h : c < 4294967296) : ∀ (p : List Int), (∀ z ∈ p, 0 ≤ z ∧ z ≤ 255) → crcN c p < 4294967296
  | [], _ => h
  | x :: p, hp => crcN_lt (m8_lt (Nat.xor_lt_two_pow (n := 32) (by omega) (by have := hp x (by simp); omega))) p fun z hz => hp z (by simp [hz])
def sumN (p : List Int) : Nat := crcN 4294967295 p ^^^ 4294967295
theorem sumN_lt {p : List Int} (hp : ∀ z ∈ p, 0 ≤ z ∧ z ≤ 255) : sumN p < 4294967296 := Nat.xor_lt_two_pow (n := 32) (crcN_lt (by omega) p hp) (by omega)
theorem crcN_snoc (c : Nat) (p : List Int) (x : Int) : crcN c (p ++ [x]) = m8 (crcN c p ^^^ x.toNat) := by unfold crcN; rw [List.foldl_append]; rfl
theorem crcN_take (c : Nat) (p : List Int) (i : Nat) (h : i < p.length) : crcN c (p.take (i + 1)) = m8 (crcN c (p.take i) ^^^ (p.getD i 0).toNat) := by
  rw [List.take_succ_eq_append_getElem h, crcN_snoc, List.getD_eq_getElem?_getD, List.getElem?_eq_getElem h]; rfl
theorem and_one (n : Nat) (h : n < 4294967296) : bits .and .u32 (n : Int) 1 = ((n % 2 : Nat) : Int) := by
  have := u32_and_nat n 1 h (by omega)
  rw [Nat.and_one_is_mod] at this
  simpa using this
theorem xor_u32 (a b : Nat) (ha : a < 4294967296) (hb : b < 4294967296) : bits .xor .u32 (a : Int) (b : Int) = ((a ^^^ b : Nat) : Int) := u32_xor_nat a b ha hb
theorem xor_poly (a : Nat) (ha : a < 4294967296) : bits .xor .u32 (a : Int) 2197175160 = ((a ^^^ 2197175160 : Nat) : Int) := u32_xor_nat a 2197175160 ha (by omega)
theorem xor_all (a : Nat) (ha : a < 4294967296) : bits .xor .u32 (a : Int) 4294967295 = ((a ^^^ 4294967295 : Nat) : Int) := u32_xor_nat a 4294967295 ha (by omega)
end Go.Proofs.YtkdjkmnalkalpaaGreatDoor.Fr
namespace Go.Proofs.YtkdjkmnalkalpaaGreatDoor.Fr
open Go.RowKit
set_option maxRecDepth 100000

set_option maxHeartbeats 1000000 in
theorem moved_any (n : Nat) (hn : n < 4294967296) (w : World) :
    Calls Tryz.prog 196 #[.int .u32 (n : Int)] w fun e w' => e = .returned (.int .u32 (m8 n : Nat)) ∧ w = w' := by
  go_enter Tryz.func196, Tryz.ntmps196
  go_wp2
  go_loop [0, 4] (fun s0 s4 => ∃ k : Nat, k ≤ 8 ∧ s4 = .int .i64 k ∧ s0 = .int .u32 (mv k n : Nat)) (fun _ s4 => 8 - (intOf s4).toNat)
  case atStart => exact ⟨0, by omega, rfl, rfl⟩
  case round =>
    obtain ⟨k, hk, rfl, rfl⟩ := hrel
    have hm := mv_lt hn k
    have HN : Hid (mv (k + 1) n = m1 (mv k n)) := rfl
    by_cases hlt : k < 8
    · have li : (k : Int) < 8 := by omega
      generalize mv k n = m at *
      have hd : m / 2 < 4294967296 := by omega
      by_cases ho : m % 2 = 1
      · have ha : bits .and .u32 (m : Int) 1 = 1 := by rw [and_one m hm, ho]; rfl
        have HX : Hid (bits .xor .u32 ((m : Int) / 2) 2197175160 = ((m1 m : Nat) : Int)) := by
          show _ = _
          have := xor_poly (m / 2) hd
          unfold m1; rw [if_pos ho, ← this]; rfl
        clear ho hd hm
        go_wp2
        go_round
        case rel => exact ⟨k + 1, by omega, by go_num, by rw [HN.out, ← HX.out]⟩
        case measure => simp [intOf]; omega
      · have ha : bits .and .u32 (m : Int) 1 = 0 := by rw [and_one m hm]; simp; omega
        have HX : Hid ((m : Int) / 2 = ((m1 m : Nat) : Int)) := by
          show _ = _
          unfold m1; rw [if_neg ho]; rfl
        clear ho hd hm
        go_wp2
        go_round
        case rel => exact ⟨k + 1, by omega, by go_num, by rw [HN.out, ← HX.out]⟩
        case measure => simp [intOf]; omega
    · obtain rfl : k = 8 := by omega
      go_wp2
      go_ret
      exact ⟨rfl, rfl⟩

def tabI : List Int := (List.range 256).map fun i => ((m8 i : Nat) : Int)
theorem tabI_length : tabI.length = 256 := by simp [tabI]
theorem tabI_at (i : Nat) (h : i < 256) : (tabI.map (Value.int .u32))[i]? = some (.int .u32 ((m8 i : Nat) : Int)) := by
  unfold tabI
  rw [List.getElem?_map, List.getElem?_map, List.getElem?_range h]; rfl
theorem tabI_take (i : Nat) (h : i < 256) : tabI.take (i + 1) = tabI.take i ++ [((m8 i : Nat) : Int)] := by
  rw [List.take_succ_eq_append_getElem (by rw [tabI_length]; exact h)]
  congr 2
  simp [tabI]
def zeros256 : List Value := fill 256 (.int .u32 0) []
theorem zeroTab (w : World) : (zeroValue 280).run Tryz.prog w = .ok (.agg zeros256.toArray) w :=
  (zero_of_info (P := Tryz.prog) (t := 280) (v := .agg zeros256.toArray) (n := 256) (by kernel_rfl)).1 w

set_option maxHeartbeats 1000000 in
theorem newTable_any (w : World) :
    Calls Tryz.prog 151 #[] w fun e w' => e = .returned (.pointer (some ⟨w.heap.size, 0, none⟩)) ∧ Blk w' w.heap.size 280 (tabI.map (Value.int .u32)) ∧ Below w.heap.size w w' := by
  have hz0 := zeroTab
  go_enter Tryz.func151, Tryz.ntmps151
  go_upto_region 2 with fail
  clear hz0
  refine wp_world fun wz hwz => ?_
  have hz : Blk wz w.heap.size 280 (fill 256 (.int .u32 0) ((tabI.take 0).map (Value.int .u32))) := by rw [hwz]; exact Blk.new w 280 zeros256
  have hb : Below w.heap.size w wz := by rw [hwz]; exact (Below.refl _ _).alloc (Nat.le_refl _) _
  clear hwz
  go_wp2_with fail
  go_loopw [2, 3] (fun _ s3 wr => ∃ i : Nat, i ≤ 256 ∧ s3 = .int .i64 i ∧ Blk wr w.heap.size 280 (fill 256 (.int .u32 0) ((tabI.take i).map (Value.int .u32))) ∧ Below w.heap.size w wr) (fun _ s3 _ => 256 - (intOf s3).toNat)
  case atStart => exact ⟨0, by omega, rfl, hz, hb⟩
  case round =>
    clear hz hb
    obtain ⟨i, hi, rfl, hz, hb⟩ := hrel
    by_cases hlt : i < 256
    · have li : (i : Int) < 256 := by omega
      have hl : ((tabI.take i).map (Value.int .u32)).length = i := by rw [List.length_map, List.length_take, tabI_length]; omega
      have cn : wr.cell? ⟨w.heap.size, i, none⟩ = some (.int .u32 0) := by
        refine hz.cell ?_
        have := fill_next (n := 256) (z := .int .u32 0) (vs := (tabI.take i).map (Value.int .u32)) (by rw [hl]; exact hlt)
        rw [hl] at this; exact this
      have cf := hz.frozen i
      have HST : Hid ((fill 256 (.int .u32 0) ((tabI.take i).map (Value.int .u32))).set i (.int .u32 ((m8 i : Nat) : Int)) = fill 256 (.int .u32 0) ((tabI.take (i + 1)).map (Value.int .u32))) := by
        show _ = _
        have := fill_set (n := 256) (z := .int .u32 0) (v := .int .u32 ((m8 i : Nat) : Int)) (vs := (tabI.take i).map (Value.int .u32)) (by rw [hl]; exact hlt)
        rw [hl] at this
        rw [this, tabI_take i hlt, List.map_append]; rfl
      clear hl
      go_wp2_with fail
      refine (moved_any i (by omega) _).mono ?_; rintro e w' ⟨rfl, rfl⟩
      go_wp2_with fail
      go_roundw
      case rel => exact ⟨i + 1, by omega, by go_num, by rw [← HST.out]; exact hz.set _ _, hb.setCell (Nat.le_refl _) _⟩
      case measure => simp [intOf]; omega
    · obtain rfl : i = 256 := by omega
      rw [List.take_of_length_le (by rw [tabI_length]; omega), fill_full (by rw [List.length_map, tabI_length])] at hz
      go_wp2_with fail
      go_ret
      exact ⟨rfl, hz, hb⟩

def fourI (n : Int) : List Int := [n % 256, n / 256 % 256, n / 65536 % 256, n / 16777216 % 256]
theorem fourI_byt (n : Int) : Byt (fourI n) := by
  intro z hz
  simp only [fourI, List.mem_cons, List.not_mem_nil, or_false] at hz
  omega
def zeros4 : List Value := fill 4 (.int .u8 0) []
set_option maxHeartbeats 1000000 in
theorem bytesOf_any (n : Int) (w : World) :
    Calls Tryz.prog 146 #[.int .u32 n] w fun e w' => e = .returned (.agg ((fourI n).map (Value.int .u8)).toArray) ∧ Below w.heap.size w w' := by
  go_enter Tryz.func146, Tryz.ntmps146
  go_wp2_with fail
  refine wp_world fun wz hwz => ?_
  have hr : Blk wz w.heap.size 227 zeros4 := by rw [hwz]; exact (Blk.new w 227 zeros4).alloc _
  have hz : Blk wz (w.heap.size + 1) 227 (fill 4 (.int .u8 0) (((fourI n).take 0).map (Value.int .u8))) := by
    rw [hwz]
    have := Blk.new (w.alloc (.cells zeros4.toArray 227)) 227 zeros4
    rw [World.size_alloc] at this; exact this
  have hb : Below w.heap.size w wz := by rw [hwz]; exact ((Below.refl _ _).alloc (Nat.le_refl _) _).alloc (by simp) _
  clear hwz
  go_loopw [4, 5] (fun _ s5 wr => ∃ i : Nat, i ≤ 4 ∧ s5 = .int .i64 i ∧ Blk wr w.heap.size 227 zeros4 ∧ Blk wr (w.heap.size + 1) 227 (fill 4 (.int .u8 0) (((fourI n).take i).map (Value.int .u8))) ∧ Below w.heap.size w wr) (fun _ s5 _ => 4 - (intOf s5).toNat)
  case atStart => exact ⟨0, by omega, rfl, hr, hz, hb⟩
  case round =>
    clear hr hz hb
    obtain ⟨i, hi, rfl, hr, hz, hb⟩ := hrel
    by_cases hlt : i < 4
    · have hl : (((fourI n).take i).map (Value.int .u8)).length = i := by rw [List.length_map, List.length_take]; show min i 4 = i; omega
      have cn : wr.cell? ⟨w.heap.size + 1, i, none⟩ = some (.int .u8 0) := by
        refine hz.cell ?_
        have := fill_next (n := 4) (z := .int .u8 0) (vs := ((fourI n).take i).map (Value.int .u8)) (by rw [hl]; exact hlt)
        rw [hl] at this; exact this
      have cf := hz.frozen i
      clear hl
      rcases (by omega : i = 0 ∨ i = 1 ∨ i = 2 ∨ i = 3) with rfl | rfl | rfl | rfl
      all_goals
        have hz' := fun (k : Nat) (v : Value) => hz.set k v
        have hr' := fun o v => hr.set_other (a := ⟨w.heap.size + 1, o, none⟩) (by show w.heap.size ≠ w.heap.size + 1; omega) v
        have hb' := fun o v => hb.setCell (p := ⟨w.heap.size + 1, o, none⟩) (Nat.le_succ _) v
        have HZ := Lib.hid hz'
        have HR := Lib.hid hr'
        have HB := Lib.hid hb'
        clear hi hlt hz' hr' hb' hz hr hb
        go_wp2_with fail
        go_roundw
      case rel => exact ⟨1, by omega, rfl, HR.out _ _, HZ.out 0 _, HB.out _ _⟩
      case measure => simp [intOf]
      case rel => exact ⟨2, by omega, rfl, HR.out _ _, HZ.out 1 _, HB.out _ _⟩
      case measure => simp [intOf]
      case rel => exact ⟨3, by omega, rfl, HR.out _ _, HZ.out 2 _, HB.out _ _⟩
      case measure => simp [intOf]
      case rel => exact ⟨4, by omega, rfl, HR.out _ _, HZ.out 3 _, HB.out _ _⟩
      case measure => simp [intOf]
    · obtain rfl : i = 4 := by omega
      rw [List.take_of_length_le (show (fourI n).length ≤ 4 from Nat.le_refl 4), fill_full (show ((fourI n).map (Value.int .u8)).length = 4 from rfl)] at hz
      obtain ⟨O, hO⟩ : ∃ O : List Value, O = (fourI n).map (Value.int .u8) := ⟨_, rfl⟩
      have hOl : O.toArray.size = 4 := by rw [hO]; rfl
      have hO1 : O.toArray.all (·.oneCell') = true := by rw [hO]; exact all_oneCell_toArray (ones_int _ _)
      rw [← hO] at hz
      have HO := Lib.hid hO
      clear hO hlt hi
      go_wp2_with (first
        | ((with_reducible refine wpList_load_row rfl 227 (.tmp 3) rfl (w.heap.size + 1) ?_ 227 O.toArray (0, 0) _ ?_ Tryz.underlying227 rfl ?_ ?_); (exact rfl); (exact hz); (rw [hOl]; kernel_rfl))
        | ((with_reducible refine wpList_store_row rfl 227 (.tmp 2) (.tmp 16) rfl w.heap.size O.toArray ?_ ?_ 227 zeros4.toArray ?_ ?_ ?_ ?_ ?_); (exact rfl); (exact rfl); (exact hr); (rw [hOl]; kernel_rfl); (rw [hOl]; rfl); (exact hO1)))
      exact bodyPost_ret (v := .agg O.toArray) (results_cell_row rfl _ _ _ 227 O.toArray (0, 0) _ rfl (hr.setRow (cs' := O)) Tryz.underlying227 rfl (by rw [hOl]; kernel_rfl)) rfl ⟨by rw [HO.out], Below.setRow hb (Nat.le_refl _) _⟩
end Go.Proofs.YtkdjkmnalkalpaaGreatDoor.Fr
namespace Go.Proofs.YtkdjkmnalkalpaaGreatDoor.Fr
open Go.RowKit
set_option maxRecDepth 100000

theorem slice_cap {w0 : World} {a : Option Addr} {c : Nat} {p : List Int} (h : BytesE w0 (.slice a p.length c) p) : p.length ≤ c := by
  rcases h with (⟨h1, h2⟩ | ⟨pb, po, cap, h1, h2, _⟩) | ⟨ad, cap, h1, h2⟩
  · subst h2; simp
  · cases h1; exact h2
  · subst h2; simp
theorem slice_mem {w0 : World} {a : Option Addr} {c : Nat} {p : List Int} (h : BytesE w0 (.slice a p.length c) p) (lo n : Nat) (hn : lo + n ≤ p.length) :
    BytesE w0 (.slice (if c = lo then a else a.map (·.add (lo * 1))) n (c - lo)) ((p.drop lo).take n) := by
  have hc := slice_cap h
  by_cases hn0 : n = 0
  · subst hn0
    rw [List.take_zero]
    cases a with
    | none =>
      rcases h with (⟨h1, h2⟩ | ⟨pb, po, cap, h1, h2, h3, h4⟩) | ⟨ad, cap, h1, h2⟩
      · subst h2
        cases h1
        exact .inl (.inl ⟨by simp, rfl⟩)
      · cases h1
      · cases h1
    | some ad =>
      split
      · exact .inr ⟨ad, _, rfl, rfl⟩
      · exact .inr ⟨ad.add (lo * 1), _, rfl, rfl⟩
  · rw [if_neg (by omega)]
    rcases h with (⟨h1, h2⟩ | ⟨pb, po, cap, h1, h2, h3, h4⟩) | ⟨ad, cap, h1, h2⟩
    · subst h2; simp at hn; omega
    · cases h1
      refine .inl (.inr ⟨pb, po + lo, c - lo, ?_, ?_, h3, fun j u hu => ?_⟩)
      · rw [List.length_take, List.length_drop, show min n (p.length - lo) = n by omega]
        simp [Addr.add]
      · rw [List.length_take, List.length_drop]; omega
      · rw [List.getElem?_map, List.getElem?_take] at hu
        split at hu
        · rw [List.getElem?_drop] at hu
          rw [Nat.add_assoc]
          exact h4 (lo + j) u (by rw [List.getElem?_map]; exact hu)
        · cases hu
    · subst h2; simp at hn; omega
theorem slice_bytes {w0 : World} {v : Value} {p : List Int} (h : BytesE w0 v p) (lo n : Nat) (hn : lo + n ≤ p.length) :
    ∃ a c, (∀ (w : World) (hi : Nat), hi = lo + n → (Instr.slice 38 v (some (.int .i64 lo)) (some (.int .i64 hi)) none).run Tryz.prog w = .ok (.slice a n c) w) ∧ BytesE w0 (.slice a n c) ((p.drop lo).take n) := by
  obtain ⟨a, c, rfl⟩ := h.slice
  have hc := slice_cap h
  refine ⟨if c = lo then a else a.map (·.add (lo * 1)), c - lo, fun w hi hh => ?_, slice_mem h lo n hn⟩
  subst hh
  rw [run_slice_lh w 38 a p.length c (by exact Tryz.underlying38) .i64 .i64 lo ((lo + n : Nat) : Int) (by omega) (by omega) (by omega)]
  rw [show Tryz.prog.elem 38 = 5 from by kernel_rfl, Tryz.sizeOf5]
  simp only [Result.andThen_ok, sliced, Int.toNat_natCast]
  rw [show lo + n - lo = n by omega]
theorem slice_from {w0 : World} {v : Value} {p : List Int} (h : BytesE w0 v p) (lo n : Nat) (hn : lo + n = p.length) :
    ∃ a c, (∀ (w : World), (Instr.slice 38 v (some (.int .i64 lo)) none none).run Tryz.prog w = .ok (.slice a n c) w) ∧ BytesE w0 (.slice a n c) (p.drop lo) := by
  obtain ⟨a, c, rfl⟩ := h.slice
  have hc := slice_cap h
  have hm := slice_mem h lo n (by omega)
  rw [List.take_of_length_le (by rw [List.length_drop]; omega)] at hm
  refine ⟨if c = lo then a else a.map (·.add (lo * 1)), c - lo, fun w => ?_, hm⟩
  rw [run_slice_l w 38 a p.length c (by exact Tryz.underlying38) .i64 lo (by omega) (by omega)]
  rw [show Tryz.prog.elem 38 = 5 from by kernel_rfl, Tryz.sizeOf5]
  simp only [Result.andThen_ok, sliced, Int.toNat_natCast]
  rw [show p.length - lo = n by omega]
def numP (p : List Int) : Nat → Int
  | 0 => 0
  | i + 1 => numP p i + p.getD i 0 * 256 ^ i
def numI (p : List Int) : Int := numP p 4
theorem numI_is (p : List Int) : numI p = p.getD 0 0 + p.getD 1 0 * 256 + p.getD 2 0 * 65536 + p.getD 3 0 * 16777216 := by
  simp [numI, numP]
theorem or_shift (x : Int) (z : Int) (k : Nat) (hk : k ≤ 24) (h0 : 0 ≤ x) (hx : x < 2 ^ k) (z0 : 0 ≤ z) (z1 : z ≤ 255) : bits .or .u32 x (z * 2 ^ k) = x + z * 2 ^ k := by
  obtain ⟨a, rfl⟩ : ∃ a : Nat, x = a := ⟨x.toNat, by omega⟩
  obtain ⟨b, rfl⟩ : ∃ b : Nat, z = b := ⟨z.toNat, by omega⟩
  have ha : a < 2 ^ k := by exact_mod_cast hx
  have hb : b ≤ 255 := by omega
  have hp : 2 ^ k ≤ 2 ^ 24 := Nat.pow_le_pow_right (by omega) hk
  have hbk : b * 2 ^ k ≤ 255 * 2 ^ 24 := Nat.mul_le_mul hb hp
  have h := u32_or_nat a (b * 2 ^ k) (by omega) (by omega)
  have h2 := Nat.two_pow_add_eq_or_of_lt (i := k) (b := a) ha b
  rw [show ((b : Int) * 2 ^ k) = ((b * 2 ^ k : Nat) : Int) by push_cast; rfl, h, Nat.or_comm, Nat.mul_comm, ← h2]
  push_cast; omega

theorem numP_bounds (p : List Int) (hy : Byt p) : ∀ i, 0 ≤ numP p i ∧ numP p i < 256 ^ i
  | 0 => by simp [numP]
  | i + 1 => by
    have ⟨h0, h1⟩ := numP_bounds p hy i
    have ⟨b0, b1⟩ := hy.getD i
    have hp : (0 : Int) < 256 ^ i := Int.pow_pos (by decide)
    have h2 : p.getD i 0 * 256 ^ i ≤ 255 * 256 ^ i := Int.mul_le_mul_of_nonneg_right b1 (Int.le_of_lt hp)
    have h3 : 0 ≤ p.getD i 0 * 256 ^ i := Int.mul_nonneg b0 (Int.le_of_lt hp)
    rw [numP, Int.pow_succ]
    omega
theorem numP_step (p : List Int) (hy : Byt p) (i : Nat) (m : Int) (hi : i < 4) (hm : m = 256 ^ i) :
    Value.int .u32 (bits .or .u32 (numP p i) (p[i]?.getD 0 % 4294967296 * m % 4294967296)) = Value.int .u32 (numP p (i + 1)) := by
  have ⟨h0, h1⟩ := numP_bounds p hy i
  have ⟨b0, b1⟩ := hy.getD i
  have e : (256 : Int) ^ i = 2 ^ (8 * i) := by rw [Int.pow_mul]; rfl
  have hk : (2 : Int) ^ (8 * i) ≤ 2 ^ 24 := by exact_mod_cast Nat.pow_le_pow_right (n := 2) (by omega) (show 8 * i ≤ 24 by omega)
  have hp : (0 : Int) < 2 ^ (8 * i) := Int.pow_pos (by decide)
  rw [e] at h1
  have ho := or_shift (numP p i) (p.getD i 0) (8 * i) (by omega) h0 h1 b0 b1
  have h2 : p.getD i 0 * 2 ^ (8 * i) ≤ 255 * 2 ^ (8 * i) := Int.mul_le_mul_of_nonneg_right b1 (Int.le_of_lt hp)
  have h3 : 0 ≤ p.getD i 0 * 2 ^ (8 * i) := Int.mul_nonneg b0 (Int.le_of_lt hp)
  rw [List.getD_eq_getElem?_getD] at *
  rw [hm, e, Int.emod_eq_of_lt b0 (by omega), Int.emod_eq_of_lt h3 (by omega), ho, numP, e, List.getD_eq_getElem?_getD]

set_option maxHeartbeats 1000000 in
theorem numberOf_any (v : Value) (p : List Int) (w : World) (hb : BytesE w v p) (hl : 4 ≤ p.length) (hy : Byt p) :
    Calls Tryz.prog 195 #[v] w fun e w' => e = .returned (.int .u32 (numI p)) ∧ w = w' := by
  obtain ⟨va, vc, rfl⟩ := hb.slice
  rcases hb with (⟨_, rfl⟩ | ⟨pb, po, cap, hv, h2, h3, h4⟩) | ⟨ad, cap, _, rfl⟩
  · simp at hl
  · cases hv
    have c0 : w.cell? ⟨pb, po, none⟩ = some (.int .u8 (p.getD 0 0)) := h4 0 _ (by rw [List.getElem?_map, getD_some (by omega)]; rfl)
    have c1 : w.cell? ⟨pb, po + 1, none⟩ = some (.int .u8 (p.getD 1 0)) := h4 1 _ (by rw [List.getElem?_map, getD_some (by omega)]; rfl)
    have c2 : w.cell? ⟨pb, po + 2, none⟩ = some (.int .u8 (p.getD 2 0)) := h4 2 _ (by rw [List.getElem?_map, getD_some (by omega)]; rfl)
    have c3 : w.cell? ⟨pb, po + 3, none⟩ = some (.int .u8 (p.getD 3 0)) := h4 3 _ (by rw [List.getElem?_map, getD_some (by omega)]; rfl)
    have HY := Lib.hid hy
    have b0 := hy.getD 0
    have b1 := hy.getD 1
    have b2 := hy.getD 2
    have b3 := hy.getD 3
    have S0 := numP_step p hy 0 1 (by omega) rfl
    have S1 := Lib.hid (numP_step p hy 1 256 (by omega) rfl)
    have S2 := Lib.hid (numP_step p hy 2 65536 (by omega) rfl)
    have S3 := Lib.hid (numP_step p hy 3 16777216 (by omega) rfl)
    simp only [Int.mul_one] at S0
    have S0 := Lib.hid S0
    clear hy h4
    go_enter Tryz.func195, Tryz.ntmps195
    go_wp2
    go_loop [3, 4, 5] (fun s3 _ s5 => ∃ i : Nat, i ≤ 4 ∧ s5 = .int .i64 i ∧ s3 = .int .u32 (numP p i)) (fun _ _ s5 => 4 - (intOf s5).toNat)
    case atStart => exact ⟨0, by omega, rfl, rfl⟩
    case round =>
      obtain ⟨i, hi, rfl, rfl⟩ := hrel
      by_cases hlt : i < 4
      · rcases (by omega : i = 0 ∨ i = 1 ∨ i = 2 ∨ i = 3) with rfl | rfl | rfl | rfl
        all_goals
          go_wp2
          go_round
        case measure => simp [intOf]
        case rel => exact ⟨1, by omega, rfl, by have := S0.out; simpa using this⟩
        case measure => simp [intOf]
        case rel => exact ⟨2, by omega, rfl, S1.out⟩
        case measure => simp [intOf]
        case rel => exact ⟨3, by omega, rfl, S2.out⟩
        case measure => simp [intOf]
        case rel => exact ⟨4, by omega, rfl, S3.out⟩
      · obtain rfl : i = 4 := by omega
        go_wp2
        go_ret
        exact ⟨rfl, rfl⟩
  · simp at hl

set_option maxHeartbeats 1000000 in
theorem isKind_any (k : Int) (w : World) :
    Calls Tryz.prog 144 #[.int .i64 k] w fun e w' => e = .returned (.bool (decide (1 ≤ k ∧ k ≤ 9))) ∧ w = w' := by
  by_cases h1 : 1 ≤ k
  · by_cases h2 : k ≤ 9
    · go_enter Tryz.func144, Tryz.ntmps144
      go_wp2
      go_ret
      exact ⟨ret_bool (by simp [h1, h2]), rfl⟩
    · go_enter Tryz.func144, Tryz.ntmps144
      go_wp2
      go_ret
      exact ⟨ret_bool (by simp [h2]), rfl⟩
  · go_enter Tryz.func144, Tryz.ntmps144
    go_wp2
    go_ret
    exact ⟨ret_bool (by simp; omega), rfl⟩

theorem Parts.open {w : World} {v : Value} {ps : List (List Int)} (h : Parts w v ps) : ∃ qa cap, v = .slice qa ps.length cap ∧ (∀ i, i < ps.length → ∃ qb qo u, qa = some ⟨qb, qo, none⟩ ∧ qb < w.heap.size ∧ w.cell? ⟨qb, qo + i, none⟩ = some u ∧ BytesE w u (ps.getD i [])) := by
  rcases h with ⟨rfl | ⟨a, rfl⟩, rfl⟩ | ⟨qb, qo, cap, rfl, h1, h2⟩
  · exact ⟨none, 0, rfl, fun i hi => by simp at hi⟩
  · exact ⟨some a, 0, rfl, fun i hi => by simp at hi⟩
  · exact ⟨some ⟨qb, qo, none⟩, cap, rfl, fun i hi => by obtain ⟨u, h3, h4⟩ := h2 i hi; exact ⟨qb, qo, u, rfl, h1, h3, h4⟩⟩
theorem flat_len_succ (ps : List (List Int)) (i : Nat) (h : i < ps.length) : ((ps.take (i + 1)).flatten).length = ((ps.take i).flatten).length + (ps.getD i []).length := by
  rw [flat_take_succ ps i h, List.length_append]

def sizeR (n : Nat) : Value := if n ≤ 8192 then .tuple #[.int .i64 n, .bool true] else .tuple #[.int .i64 0, .bool false]
set_option maxHeartbeats 1000000 in
theorem payloadSize_any (v : Value) (ps : List (List Int)) (w : World) (hp : Parts w v ps) (hm : ps.length < 9223372036854775807) (hq : ∀ i, i < ps.length → (ps.getD i []).length < 1000000000000) :
    Calls Tryz.prog 145 #[v] w fun e w' => e = .returned (sizeR ps.flatten.length) ∧ w = w' := by
  obtain ⟨qa, cap, rfl, hpe⟩ := hp.open
  have HP := Lib.hid hpe
  have HQ := Lib.hid hq
  obtain ⟨R, hR⟩ : ∃ R, R = sizeR ps.flatten.length := ⟨_, rfl⟩
  rw [← hR]
  have HR := Lib.hid hR
  clear hpe hq hp hR
  go_enter Tryz.func145, Tryz.ntmps145
  go_wp2
  go_loop [4, 6, 9] (fun s4 _ s9 => ∃ i : Nat, i ≤ ps.length ∧ s9 = .int .i64 i ∧ s4 = .int .i64 ((ps.take i).flatten).length ∧ ((ps.take i).flatten).length ≤ 8192) (fun _ _ s9 => ps.length - (intOf s9).toNat)
  case atStart => exact ⟨0, by omega, rfl, rfl, by simp⟩
  case round =>
    obtain ⟨i, hi, rfl, rfl, hL⟩ := hrel
    by_cases hlt : i < ps.length
    · obtain ⟨qb, qo, u, rfl, hql, hcu, hbu⟩ := HP.out i hlt
      have hpl := HQ.out i hlt
      have HFT : Hid (((ps.take (i + 1)).flatten).length = ((ps.take i).flatten).length + (ps.getD i []).length) := flat_len_succ ps i hlt
      have hall := flat_take_le ps (i + 1)
      rw [HFT.out] at hall
      obtain ⟨ua, uc, rfl⟩ := hbu.slice
      generalize ((ps.take i).flatten).length = A at *
      generalize (ps.getD i []).length = B at *
      clear hbu
      by_cases hbig : 8192 < A + B
      · have HA : Hid (R = .tuple #[.int .i64 0, .bool false]) := by show _ = _; rw [HR.out]; unfold sizeR; rw [if_neg (by omega)]
        clear hall
        go_wp2
        go_ret2
        exact ⟨by rw [HA.out]; rfl, rfl⟩
      · clear hall
        go_wp2
        go_round
        case rel => exact ⟨i + 1, by omega, by go_num, by rw [HFT.out]; go_num, by rw [HFT.out]; omega⟩
        case measure => simp [intOf]; omega
    · obtain rfl : i = ps.length := by omega
      rw [List.take_of_length_le (Nat.le_refl _)] at hL ⊢
      have HA : Hid (R = .tuple #[.int .i64 ps.flatten.length, .bool true]) := by show _ = _; rw [HR.out]; unfold sizeR; rw [if_pos hL]
      clear HR
      generalize ps.flatten.length = N at *
      go_wp2
      go_ret2
      exact ⟨by rw [HA.out]; rfl, rfl⟩
end Go.Proofs.YtkdjkmnalkalpaaGreatDoor.Fr
