/- Package seglog: frames with their segment's id. Files of bytes; what reading segments makes of them. Plain; nothing is walked. Package seglog: 'Read'. -/
import Derived.Test.YtigbgajelkknbaaGreatDoorSgC
namespace Go.Proofs.YtigbgajelkknbaaGreatDoor
open Go.RowKit
set_option maxRecDepth 100000
set_option maxRecDepth 100000

/-- A frame with its segment's id: id, kind, payload, the payload's value. -/
abbrev EntT := Int × Int × List Int × Value
def cellsE (es : List EntT) : List Value := es.flatMap fun t => [.int .i64 t.1, .int .i64 t.2.1, t.2.2.2]
theorem cellsE_append (a b : List EntT) : cellsE (a ++ b) = cellsE a ++ cellsE b := by unfold cellsE; rw [List.flatMap_append]
theorem cellsE_length : ∀ xs : List EntT, (cellsE xs).length = xs.length * 3
  | [] => rfl
  | t :: xs => by
    have := cellsE_length xs
    unfold cellsE at *
    rw [List.flatMap_cons, List.length_append, this, List.length_cons]; simp; omega
theorem cellsE_get : ∀ (xs : List EntT) (i : Nat) (t : EntT), xs[i]? = some t → (cellsE xs)[i * 3]? = some (.int .i64 t.1) ∧ (cellsE xs)[i * 3 + 1]? = some (.int .i64 t.2.1) ∧ (cellsE xs)[i * 3 + 2]? = some t.2.2.2
  | [], _, _, h => by cases h
  | t :: xs, 0, t', h => by cases h; exact ⟨rfl, rfl, rfl⟩
  | t :: xs, i + 1, t', h => by
    have := cellsE_get xs i t' (by simpa using h)
    have e : cellsE (t :: xs) = .int .i64 t.1 :: .int .i64 t.2.1 :: t.2.2.2 :: cellsE xs := by unfold cellsE; rw [List.flatMap_cons]; rfl
    rw [e, show (i + 1) * 3 = i * 3 + 1 + 1 + 1 by omega]
    exact this
/-- Entries in memory. -/
structure Ents (w : World) (base : Nat) (v : Value) (es : List EntT) : Prop where
  own : w.ownsRow base 120 3 v es.length (cellsE es)
  pay : ∀ t ∈ es, Fr.OwnB w base t.2.2.2 t.2.2.1
theorem entInfo : (Tryz.prog.info? 120).map (fun i => (i.zero, i.size, i.bytes)) = some (some (.agg #[.int .i64 0, .int .i64 0, .slice none 0 0]), 3, 40) := by kernel_rfl
/-- What is owned stays where its block stays. -/
theorem own_stay {w w' : World} {base e size : Nat} {v : Value} {n : Nat} {cs : List Value} (h : w.ownsRow base e size v n cs) (hs : ∀ k, k < w.heap.size → v.ownBlock = some k → w'.heap[k]? = w.heap[k]?) : w'.ownsRow base e size v n cs :=
  ownsRow_to h fun k _ ek ev => hs k (heap_lt ek) ev
theorem own_mono {w : World} {base base' e size : Nat} {v : Value} {n : Nat} {cs : List Value} (h : w.ownsRow base e size v n cs) (hb : base' ≤ base) : w.ownsRow base' e size v n cs := by
  refine ⟨h.1, ?_⟩
  rcases h.2 with h1 | ⟨g, cap, cur, h1, h2, h3, h4⟩
  · exact .inl h1
  · exact .inr ⟨g, cap, cur, h1, Nat.le_trans hb h2, h3, h4⟩
/-- Rows of cells of unlike types lie apart. -/
theorem own_apart {w : World} {b1 b2 e1 e2 s1 s2 n1 n2 : Nat} {v1 v2 : Value} {c1 c2 : List Value} (h1 : w.ownsRow b1 e1 s1 v1 n1 c1) (h2 : w.ownsRow b2 e2 s2 v2 n2 c2) (hne : e1 ≠ e2) {k : Nat} (k1 : v1.ownBlock = some k) : v2.ownBlock ≠ some k := by
  intro k2
  rcases h1.2 with ⟨hn, _⟩ | ⟨g, cap, cur, hx, _, hh, _⟩
  · rw [hn] at k1; cases k1
  rcases h2.2 with ⟨hn, _⟩ | ⟨g', cap', cur', hx', _, hh', _⟩
  · rw [hn] at k2; cases k2
  rw [hx] at k1; rw [hx'] at k2
  cases k1; cases k2
  rw [hh] at hh'
  injection hh' with hh'
  injection hh' with _ hh'
  exact hne hh'
theorem Ents.nil (w : World) (base : Nat) : Ents w base (.slice none 0 0) [] := ⟨World.ownsRow_nil _ _ _ _, fun t ht => by cases ht⟩
theorem Ents.keep {w w' : World} {base : Nat} {v : Value} {es : List EntT} (h : Ents w base v es) (hb : Below w.heap.size w w') : Ents w' base v es :=
  ⟨own_stay h.own fun k hk _ => hb.block k hk, fun t ht => own_stay (h.pay t ht) fun k hk _ => hb.block k hk⟩
theorem Ents.mono {w : World} {base base' : Nat} {v : Value} {es : List EntT} (h : Ents w base v es) (hb : base' ≤ base) : Ents w base' v es :=
  ⟨own_mono h.own hb, fun t ht => own_mono (h.pay t ht) hb⟩
theorem Ents.slice {w : World} {base : Nat} {v : Value} {es : List EntT} (h : Ents w base v es) : ∃ a c, v = .slice a es.length c := by
  rcases h.own.2 with ⟨rfl, h0⟩ | ⟨g, cap, cur, rfl, _⟩
  · exact ⟨none, 0, by rw [h0]⟩
  · exact ⟨_, _, rfl⟩
/-- Cells of what is owned. -/
theorem ownsRow_at {w : World} {base : Nat} {e size : TypeId} {n c : Nat} {a : Option Addr} {xs : List Value} (h : w.ownsRow base e size (.slice a n c) n xs) (hn : 0 < n) :
    ∃ g, a = some ⟨g, 0, none⟩ ∧ base ≤ g ∧ g < w.heap.size ∧ ∀ (j : Nat) (v : Value), xs[j]? = some v → w.cell? ⟨g, j, none⟩ = some v := by
  rcases h.2 with ⟨_, h0⟩ | ⟨g, cap, cur, h1, h2, h3, h4, _, h5, h6⟩
  · omega
  · cases h1
    refine ⟨g, rfl, h2, heap_lt h3, fun j v hv => ?_⟩
    have hj : j < n * size := by
      have := (List.getElem?_eq_some_iff.1 hv).1
      rw [h.1] at this; exact this
    rw [cell_of_row w g j cur _ _ h3, ← Array.getElem?_toList]
    rw [← h6, List.getElem?_take_of_lt hj] at hv
    exact hv
/-- The frames with this id. -/
def withId (id : Int) (xs : List (Int × List Int × Value)) : List EntT := xs.map fun t => (id, t.1, t.2.1, t.2.2)

set_option maxHeartbeats 4000000 in
theorem entries_any (id : Int) (base : Nat) (v : Value) (xs : List (Int × List Int × Value)) (w : World) (h : Fr.Frs w base v xs) (hb : base ≤ w.heap.size) (hl : xs.length ≤ 100000) :
    Calls Tryz.prog 70 #[.int .i64 id, v] w fun e w' => ∃ v', e = .returned v' ∧ Ents w' base v' (withId id xs) ∧ w'.ownsRow w.heap.size 120 3 v' xs.length (cellsE (withId id xs)) ∧ (∃ g c, v' = .slice (some ⟨g, 0, none⟩) xs.length c) ∧ Below w.heap.size w w' := by
  obtain ⟨va, vc, rfl⟩ := h.slice
  obtain ⟨i0, hi, hz0, hz1, hz2⟩ := info_parts entInfo
  have HI := Lib.hid hi
  have HZ0 := Lib.hid hz0
  have HZ1 := Lib.hid hz1
  have HZ2 := Lib.hid hz2
  have HF := Lib.hid h
  obtain ⟨m, hm⟩ : ∃ m, m = xs.length := ⟨_, rfl⟩
  have HM := Lib.hid hm
  have HL := Lib.hid (show m ≤ 100000 by omega)
  obtain ⟨es, hes⟩ : ∃ es, es = withId id xs := ⟨_, rfl⟩
  have HES := Lib.hid hes
  rw [← hm, ← hes]
  clear hi hz0 hz1 hz2 h hl hm hes
  have hb16 : Hid (i0.bytes * m ≤ 281474976710656) := by show _ ≤ _; rw [HZ2.out]; have := HL.out; omega
  have hb16b : Hid (m ≤ maxLen) := by show _ ≤ _; have := HL.out; unfold maxLen; omega
  go_enter Tryz.func70, Tryz.ntmps70
  go_wp2_with (first
    | (with_reducible refine wpList_make_own w rfl (.const (.int .i64 0)) (.tmp 9) 51 rfl w.heap.size 120 i0 (.agg #[.int .i64 0, .int .i64 0, .slice none 0 0]) 3 Tryz.underlying51 HI.out HZ0.out HZ1.out .i64 .i64 (m : Int) m rfl rfl rfl hb16.out hb16b.out (Nat.le_refl _) ?_; intro w1 hown1 hg1))
  have hB1 : Below w.heap.size w w1 := (Below.refl _ w).grown hg1 (Nat.le_refl _) fun j hj => by cases hj
  have HOW1 := Lib.hid hown1
  have HB1 := Lib.hid hB1
  clear hown1 hg1 hB1
  try go_frame
  go_loopw [5, 7, 13] (fun s5 _ s13 wr => ∃ (i : Nat) (g c : Nat), i ≤ m ∧ s13 = .int .i64 i ∧ s5 = .slice (some ⟨g, 0, none⟩) i c ∧ wr.ownsRow w.heap.size 120 3 s5 i (cellsE (es.take i)) ∧ Below w.heap.size w wr)
    (fun _ _ s13 _ => m - (intOf s13).toNat)
  case atStart => exact ⟨0, _, _, Nat.zero_le _, rfl, rfl, by simpa [cellsE] using HOW1.out, HB1.out⟩
  case round =>
    obtain ⟨i, g, c, him, rfl, rfl, hO, hB⟩ := hrel
    have HO := Lib.hid hO
    have HB := Lib.hid hB
    clear hO hB
    have hl1 := HL.out
    by_cases hlt : i < m
    · have l1 : (i : Int) < m := by omega
      obtain ⟨q, rfl, hqb, hql, hcl⟩ := ownsRow_at HF.out.own (by have := HM.out; omega)
      have hit : i < xs.length := by have := HM.out; omega
      obtain ⟨t, htt⟩ : ∃ t, xs[i]? = some t := ⟨_, List.getElem?_eq_getElem hit⟩
      obtain ⟨k, p, u⟩ := t
      obtain ⟨e0, e1⟩ := Fr.cellsF_get xs i _ htt
      have c0 : wr.cell? ⟨q, i * 2, none⟩ = some (.int .i64 k) := (HB.out.cell (p := ⟨q, i * 2, none⟩) hql).trans (hcl _ _ (by rw [show i * 2 = 2 * i by omega]; exact e0))
      have c1 : wr.cell? ⟨q, i * 2 + 1, none⟩ = some u := (HB.out.cell (p := ⟨q, i * 2 + 1, none⟩) hql).trans (hcl _ _ (by rw [show i * 2 + 1 = 2 * i + 1 by omega]; exact e1))
      obtain ⟨ua, uc, rfl⟩ : ∃ a c, u = .slice a p.length c := (HF.out.pay (k, p, u) (List.mem_of_getElem? htt)).slice
      have HTK : Hid (cellsE (es.take (i + 1)) = cellsE (es.take i) ++ [.int .i64 id, .int .i64 k, .slice ua p.length uc]) := by
        show _ = _
        have e2 : es[i]? = some (id, k, p, .slice ua p.length uc) := by rw [HES.out]; unfold withId; rw [List.getElem?_map, htt]; rfl
        have hl2 := (List.getElem?_eq_some_iff.1 e2).1
        rw [List.take_succ_eq_append_getElem hl2, cellsE_append, (List.getElem?_eq_some_iff.1 e2).2]; rfl
      clear hcl e0 e1 htt hit
      generalize p.length = pl at *
      have HLM : Hid (i + 1 ≤ maxLen) := by show _ ≤ _; have := HL.out; unfold maxLen; omega
      have HLB : Hid ((i + 1) * 40 ≤ 140737488355328) := by show _ ≤ _; have := HL.out; omega
      have HON : Hid (∀ y ∈ [Value.int .i64 id, .int .i64 k, .slice ua pl uc], y.oneCell' = true) := fun y hy => by
        simp only [List.mem_cons, List.not_mem_nil, or_false] at hy
        rcases hy with rfl | rfl | rfl <;> rfl
      have HSZ : Hid (w.heap.size ≤ wr.heap.size) := HB.out.size
      generalize hcE : cellsE (es.take (i + 1)) = cE1 at HTK
      generalize hcE0 : cellsE (es.take i) = cE0 at HTK HO
      have HCE := Lib.hid hcE
      have HCE0 := Lib.hid hcE0
      clear hcE hcE0
      go_upto_region 5 with fail
      refine wp_world fun w2 hw2 => ?_
      have hb2 : Below wr.heap.size wr w2 := by rw [hw2]; exact (Below.refl _ _).alloc (Nat.le_refl _) _
      have hk2 : Blk w2 wr.heap.size 118 [.int .i64 k, .slice ua pl uc] := by rw [hw2]; exact Blk.new wr 118 [.int .i64 k, .slice ua pl uc]
      have d0 := hk2.cell (i := 0) rfl
      have d1 := hk2.cell (i := 1) rfl
      have HB2 := Lib.hid (HB.out.trans (hb2.mono HB.out.size))
      have HOB : Hid (w2.ownsRow w.heap.size 120 3 (.slice (some ⟨g, 0, none⟩) i c) i cE0) := own_stay HO.out fun k hk _ => hb2.block k hk
      have HNB : Hid (Blk (w2.alloc (.cells #[.int .i64 id, .int .i64 k, .slice ua pl uc] 120)) w2.heap.size 120 [.int .i64 id, .int .i64 k, .slice ua pl uc]) := Blk.new w2 120 [.int .i64 id, .int .i64 k, .slice ua pl uc]
      have HO2 := Lib.hid (World.ownsRow.alloc HOB.out (.cells #[.int .i64 id, .int .i64 k, .slice ua pl uc] 120))
      have HS2 : Hid (w.heap.size ≤ (w2.alloc (.cells #[.int .i64 id, .int .i64 k, .slice ua pl uc] 120)).heap.size) := Nat.le_trans HB2.out.size (by simp)
      clear hw2 hk2 hb2 c0 c1
      go_wp2_with (with_reducible refine wpList_append_own_at _ rfl (.tmp 17) (.tmp 21) 51 rfl w.heap.size 120 i0 (.agg #[.int .i64 0, .int .i64 0, .slice none 0 0]) 3 40 Tryz.underlying51 HI.out HZ0.out HZ1.out HZ2.out rfl (by decide) (.slice (some ⟨g, 0, none⟩) i c) i cE0 rfl HO2.out ⟨w2.heap.size, 0, none⟩ 1 1 [.int .i64 id, .int .i64 k, .slice ua pl uc] rfl rfl ?_ HON.out HLM.out HLB.out HS2.out ?_)
      case refine_1 => exact fun j y hy => by rw [Addr.add_mid, Nat.zero_add]; exact HNB.out.cell hy
      intro v' w3 ho3 hg3 hnn hloc
      have hall : w2.grownBy w3 (Value.slice (some ⟨g, 0, none⟩) i c).ownBlock := ⟨hg3.os, hg3.tape, hg3.output, Nat.le_trans (by simp) hg3.size, fun k hk hne => (hg3.block k (by simp; omega) hne).trans (Below.heap_alloc _ _ k hk)⟩
      have hB3 : Below w.heap.size w w3 := HB2.out.grown hall HB2.out.size fun j hj => (HOB.out.lt j hj).1
      obtain ⟨g3, c3, rfl⟩ : ∃ g3 c3, v' = .slice (some ⟨g3, 0, none⟩) (i + 1) c3 := by
        rcases ho3.2 with ⟨_, h0⟩ | ⟨g3, c3, cur, rfl, _⟩
        · omega
        · exact ⟨g3, c3, rfl⟩
      have HO3 : Hid (w3.ownsRow w.heap.size 120 3 (.slice (some ⟨g3, 0, none⟩) (i + 1) c3) (i + 1) (cellsE (es.take (i + 1)))) := by show w3.ownsRow _ _ _ _ _ _; rw [HCE.out, HTK.out]; exact ho3
      have HB3 := Lib.hid hB3
      clear ho3 hg3 hall hB3 hnn hloc d0 d1
      go_wp2_with fail
      go_roundw
      case rel => exact ⟨i + 1, g3, c3, by omega, by go_num, rfl, HO3.out, HB3.out⟩
      case measure => simp [intOf]; omega
    · have l1 : ¬ (i : Int) < m := by omega
      obtain rfl : i = m := by omega
      have HTA : Hid (es.take i = es) := by show _ = _; rw [List.take_of_length_le (by rw [HES.out]; unfold withId; rw [List.length_map, ← HM.out]; exact Nat.le_refl _)]
      clear hlt
      go_wp2_with fail
      go_ret
      have ho := HO.out
      rw [HTA.out] at ho
      have hlen : es.length = i := by rw [HES.out]; unfold withId; rw [List.length_map, ← HM.out]
      refine ⟨_, rfl, ⟨by rw [hlen]; exact own_mono ho hb, fun t ht => ?_⟩, ho, ⟨g, c, rfl⟩, HB.out⟩
      rw [HES.out] at ht
      obtain ⟨t0, h0, rfl⟩ := List.mem_map.1 ht
      exact own_stay (HF.out.pay t0 h0) fun k hk _ => HB.out.block k hk
end Go.Proofs.YtigbgajelkknbaaGreatDoor
namespace Go.Proofs.YtigbgajelkknbaaGreatDoor
open Go.RowKit
set_option maxRecDepth 100000
set_option maxRecDepth 100000

/-- All files are of bytes. -/
def ByA (A : FsA) : Prop := ∀ b f, A.file b = some f → Fr.Byt f.data
section
variable {A B : FsA}
theorem ByA.same (h : ByA A) (e : B.file = A.file) : ByA B := fun b f hf => h b f (by rw [← e]; exact hf)
theorem ByA.step (h : ByA A) : ByA (stepA A).1 := h.same (stepA_same A).2.2.2.1
theorem ByA.new (room : Int) : ByA (newA room) := fun b f hf => by cases hf
theorem ByA.setF (h : ByA A) {b : Nat} {f : Fil} (hf : Fr.Byt f.data) : ByA (setF A b f) := fun k f' e => by
  have e' : (if k = b then some f else A.file k) = some f' := e
  by_cases hk : k = b
  · rw [if_pos hk] at e'; cases e'; exact hf
  · rw [if_neg hk] at e'; exact h k f' e'
theorem ByA.create (h : ByA A) (s : ByteArray) (b : Nat) : ByA (createA A s b).1 := by
  unfold createA
  split
  · split
    · exact h
    · split
      · exact h
      · split
        · intro k f e
          have e' : (if k = b then some (⟨(stepA A).1.created, [], 0⟩ : Fil) else (stepA A).1.file k) = some f := e
          by_cases hk : k = b
          · rw [if_pos hk] at e'; cases e'; exact Fr.Byt.nil
          · rw [if_neg hk] at e'; exact h.step k f e'
        · exact h.step
  · exact h
theorem ByA.done (h : ByA A) {f : FsA → FsA} (hf : ByA (stepA A).1 → ByA (f (stepA A).1)) : ByA (doneA A f).1 := by
  unfold doneA
  split
  · exact hf h.step
  · exact h.step
theorem ByA.dir (h : ByA A) : ByA (dirA A).1 := h.done fun k => k.same rfl
theorem ByA.remove (h : ByA A) (s : ByteArray) : ByA (removeA A s).1 := by
  unfold removeA
  split
  · exact h.done fun k => k.same rfl
  · exact h
theorem ByA.rename (h : ByA A) (a b : ByteArray) : ByA (renameA A a b).1 := by
  unfold renameA
  split
  · split
    · exact h
    · exact h.done fun k => k.same rfl
  · exact h
theorem ByA.arm (h : ByA A) (k : Int) : ByA (armA A k).1 := by
  unfold armA
  split
  · exact h
  · split
    · exact h
    · exact h.same rfl
theorem ByA.plan (h : ByA A) (l : List Int) : ByA { A with plan := l } := h.same rfl
theorem ByA.sync (h : ByA A) (s : ByteArray) : ByA (syncA A s).1 := by
  unfold syncA
  split
  · refine h.done fun k b f e => ?_
    have e' : (if some b = (findA A s).1 then ((stepA A).1.file b).map (fun f => { f with sure := f.data.length }) else (stepA A).1.file b) = some f := e
    by_cases hk : some b = (findA A s).1
    · rw [if_pos hk] at e'
      obtain ⟨f0, e0, rfl⟩ := Option.map_eq_some_iff.1 e'
      exact k b f0 e0
    · rw [if_neg hk] at e'; exact k b f e'
  · exact h
theorem ByA.append (h : ByA A) (s : ByteArray) {p : List Int} (hp : Fr.Byt p) : ByA (appendA A s p).1 := by
  unfold appendA
  split
  · rename_i b _
    split
    · rename_i f hf
      have hd := h b f hf
      unfold putA
      split
      · exact h
      · split
        · split
          · exact h.step
          · exact h.step.setF (hd.append hp)
        · exact h.step.setF (hd.append (hp.take _))
    · exact h
  · exact h
theorem ByA.segCreate (h : ByA A) (id : Int) (b : Nat) : ByA (segCreateA A id b).1 := by
  unfold segCreateA
  split
  · split
    · exact (h.create _ _).dir
    · exact h.create _ _
  · exact h
theorem ByA.segAppend (h : ByA A) (id : Int) {k : Int} {p : List Int} (hp : Fr.Byt p) : ByA (segAppendA A id k p).1 := by
  unfold segAppendA
  split
  · split
    · rename_i hc
      have hk := encC_zero hc
      have hf := Fr.frameI_byt hk.1 hk.2.1 hp
      split
      · exact (h.append _ hf).sync _
      · exact h.append _ hf
    · exact h
  · exact h
theorem readA_props {n : Nat} (hI : Inv A n) (h : ByA A) (s : ByteArray) : (readA A s).1.length ≤ 65536 ∧ Fr.Byt (readA A s).1 := by
  by_cases hc : (findA A s).2 = 0
  · obtain ⟨b, f, e1, e2⟩ := findA_ok hc hI.named
    have e : readA A s = (f.data, 0) := by
      unfold readA
      rw [if_pos hc, e1]
      simp [e2]
    rw [e]
    exact ⟨(hI.short b f e2).1, h b f e2⟩
  · have e : readA A s = ([], (findA A s).2) := by unfold readA; rw [if_neg hc]
    rw [e]
    exact ⟨Nat.zero_le _, Fr.Byt.nil⟩
end
/-- What a file of a segment tells: its frames, each with the id. -/
def idF (id : Int) (fs : List (Int × List Int)) : List (Int × Int × List Int) := fs.map fun t => (id, t.1, t.2)
/-- What is read of these segments: all frames of their fronts, and whether nothing is behind the last one. -/
inductive ReadsA (A : FsA) : List Int → List (Int × Int × List Int) → Bool → Prop
  | nil : ReadsA A [] [] true
  | snoc {ids : List Int} {es : List (Int × Int × List Int)} {b : Bool} {id : Int} {fs : List (Int × List Int)} {m : Nat} : ReadsA A ids es b → (readA A (nameV id)).2 = 0 → Fr.Scanned (readA A (nameV id)).1 fs m →
      ReadsA A (ids ++ [id]) (es ++ idF id fs) (decide (m = (readA A (nameV id)).1.length))
/-- Entries, without where they lie. -/
def plainE (es : List EntT) : List (Int × Int × List Int) := es.map fun t => (t.1, t.2.1, t.2.2.1)
theorem plainE_append (a b : List EntT) : plainE (a ++ b) = plainE a ++ plainE b := by unfold plainE; rw [List.map_append]
theorem plainE_withId (id : Int) (xs : List (Int × List Int × Value)) : plainE (withId id xs) = idF id (Fr.plainF xs) := by
  unfold plainE withId idF Fr.plainF
  rw [List.map_map, List.map_map]
  rfl
end Go.Proofs.YtigbgajelkknbaaGreatDoor
namespace Go.Proofs.YtigbgajelkknbaaGreatDoor
open Go.RowKit
set_option maxRecDepth 100000
set_option maxRecDepth 100000

/-- What 'Read' answers. -/
def ReadQ (w : World) (A : FsA) (ids : List Int) (e : Ending) (w' : World) : Prop :=
  Below w.heap.size w w' ∧
  (((∃ id ∈ ids, codeN id ≠ 0) ∧ e = .returned (.tuple #[.slice none 0 0, .bool false, .int .i64 1])) ∨
   ((∀ id ∈ ids, codeN id = 0) ∧
    ((∃ v es b, e = .returned (.tuple #[v, .bool b, .int .i64 0]) ∧ ReadsA A ids (plainE es) b ∧ Ents w' w.heap.size v es ∧ es.length ≤ ids.length * 10000) ∨
     (∃ i es b, i < ids.length ∧ ReadsA A (ids.take i) es b ∧ (readA A (nameV (ids.getD i 0))).2 ≠ 0 ∧ e = .returned (.tuple #[.slice none 0 0, .bool false, .int .i64 (readA A (nameV (ids.getD i 0))).2])))))
theorem ents_append {w4 w5 : World} {base : Nat} {v v5 : Value} {es fs : List EntT} {n : Nat} (h1 : Ents w4 base v es) (h2 : ∀ t ∈ fs, Fr.OwnB w4 base t.2.2.2 t.2.2.1) (hg : w4.grownBy w5 v.ownBlock) (hn : n = (es ++ fs).length)
    (ho : w5.ownsRow base 120 3 v5 n (cellsE es ++ cellsE fs)) : Ents w5 base v5 (es ++ fs) := by
  subst hn
  refine ⟨by rw [cellsE_append]; exact ho, fun t ht => ?_⟩
  have hp : Fr.OwnB w4 base t.2.2.2 t.2.2.1 := (List.mem_append.1 ht).elim (h1.pay t) (h2 t)
  exact own_stay hp fun k hk ek => hg.block k hk fun e => own_apart hp h1.own (by decide) ek e.symm
theorem eq_dec (a b : Nat) : ((a : Int) == (b : Int)) = decide (a = b) := by
  by_cases h : a = b
  · subst h; simp
  · have h' : ¬ (a : Int) = b := by omega
    simp [h, h']
section
variable {w0 w : World} {g n : Nat} {S : Nat → Prop} {A : FsA}
set_option maxHeartbeats 8000000 in
theorem segRead_pf (v : Value) (ids : List Int) (h : PF w0 w g S A) (hI : Inv A n) (hy : ByA A) (ht : Tab w0) (hv : Ints w v ids) (hl : ids.length ≤ 1000) :
    Calls Tryz.prog 20 #[.pointer (some ⟨g, 0, none⟩), v] w (ReadQ w A ids) := by
  obtain ⟨va, vc, rfl⟩ := hv.slice
  obtain ⟨i0, hi, hz0, hz1, hz2⟩ := info_parts entInfo
  have HI := Lib.hid hi
  have HZ0 := Lib.hid hz0
  have HZ1 := Lib.hid hz1
  have HZ2 := Lib.hid hz2
  have HNO := Lib.hid (namesOf_any (.slice va ids.length vc) ids w (ht.below h.base) hv (by omega))
  have HH := Lib.hid h
  have HIV := Lib.hid hI
  have HBY := Lib.hid hy
  have HV := Lib.hid hv
  obtain ⟨m, hm⟩ : ∃ m, m = ids.length := ⟨_, rfl⟩
  have HM := Lib.hid hm
  have HL := Lib.hid (show m ≤ 1000 by omega)
  rw [← hm] at HNO ⊢
  clear hi hz0 hz1 hz2 h hI hy ht hv hl hm
  go_enter Tryz.func20, Tryz.ntmps20
  go_wp2_with fail
  refine HNO.out.mono ?_
  rintro e w1 (⟨hall, nv, rfl, hno, hb1⟩ | ⟨hbad, rfl, hb1⟩)
  · rw [← HM.out] at hno
    obtain ⟨na, nc, rfl⟩ := own_slice hno
    have HALL := Lib.hid hall
    have HNR := Lib.hid hno
    have HB1 := Lib.hid hb1
    clear hall hno hb1 HNO
    go_wp2_with fail
    go_loopw [9, 10, 11, 12, 13, 14, 15, 16, 27] (fun s9 s10 _ _ _ _ _ _ s27 wr => ∃ (i : Nat) (es : List EntT) (b : Bool) (fa : Option Addr) (fn fc : Nat), i ≤ m ∧ s27 = .int .i64 i ∧ s10 = .bool b ∧ s9 = .slice fa fn fc ∧ fn = es.length ∧ Ents wr w1.heap.size s9 es ∧ ReadsA A (ids.take i) (plainE es) b ∧ es.length ≤ i * 10000 ∧ Below w1.heap.size w1 wr)
      (fun _ _ _ _ _ _ _ _ s27 _ => m - (intOf s27).toNat)
    case atStart => exact ⟨0, [], true, none, 0, 0, Nat.zero_le _, rfl, rfl, rfl, rfl, Ents.nil _ _, by simpa [plainE] using ReadsA.nil, Nat.zero_le _, Below.refl _ _⟩
    case round =>
      obtain ⟨i, es, b, fa, fn, fc, him, rfl, rfl, rfl, rfl, hE, hR, hel, hB⟩ := hrel
      have HE := Lib.hid hE
      have HR := Lib.hid hR
      have HEL := Lib.hid hel
      have HB := Lib.hid hB
      have HBW : Hid (Below w.heap.size w wr) := HB1.out.trans (hB.mono HB1.out.size)
      have hl1 := HL.out
      clear hE hR hel hB
      by_cases hlt : i < m
      · have l1 : (i : Int) < m := by omega
        obtain ⟨q, rfl, hqb, hql, hcl⟩ := ownsRow_at HNR.out (by omega)
        have c1 : wr.cell? ⟨q, i, none⟩ = some (.string (nameV (ids.getD i 0))) := (HB.out.cell (p := ⟨q, i, none⟩) hql).trans (hcl i _ (by rw [List.getElem?_map, List.getElem?_eq_getElem (by have := HM.out; omega), List.getD_eq_getElem?_getD, List.getElem?_eq_getElem (by have := HM.out; omega)]; rfl))
        obtain ⟨pb, po, hva, hpb, hci⟩ := HV.out.cells (by have := HM.out; omega)
        subst hva
        have HCI : Hid (∀ W, Below w.heap.size w W → W.cell? ⟨pb, po + i, none⟩ = some (.int .i64 (ids.getD i 0))) := fun W hW => (hW.cell (p := ⟨pb, po + i, none⟩) hpb).trans (hci i (by have := HM.out; omega))
        have HTK := Lib.hid (take_succ_getD (l := ids) (i := i) (by have := HM.out; omega))
        obtain ⟨id, hid⟩ : ∃ id, id = ids.getD i 0 := ⟨_, rfl⟩
        have HID := Lib.hid hid
        rw [← hid] at c1 HCI HTK
        have hpr := readA_props HIV.out HBY.out (nameV id)
        have HRD := Lib.hid (read_any g S A (nameV id) wr (HH.out.below HBW.out).fs HIV.out.named HIV.out.short (by have := nameV_size id; omega))
        obtain ⟨rd, hrd⟩ : ∃ rd, rd = readA A (nameV id) := ⟨_, rfl⟩
        have HRE := Lib.hid hrd
        rw [← hrd] at hpr HRD
        obtain ⟨data, code⟩ := rd
        simp only at hpr HRD
        have HDL := Lib.hid hpr
        clear hcl hci hid hrd hpr
        go_wp2_with fail
        refine HRD.out.mono ?_; rintro e w2 ⟨v2, rfl, hcp⟩
        obtain ⟨v2a, v2c, rfl⟩ : ∃ a c, v2 = .slice a data.length c := own_slice hcp.1
        have HCP := Lib.hid hcp
        have HB2 := Lib.hid (HB.out.trans (hcp.2.mono HB.out.size))
        have HBW2 : Hid (Below w.heap.size w w2) := HB1.out.trans (HB2.out.mono HB1.out.size)
        clear hcp HRD c1
        by_cases hc : code = 0
        · subst hc
          have HSC := Lib.hid (Fr.scan_any (.slice v2a data.length v2c) data w2 (.inl (Fr.OwnB.bytes HCP.out.1)) HDL.out.2 (by have := HDL.out.1; omega))
          go_wp2_with fail
          refine HSC.out.mono ?_; rintro e w3 ⟨v3, xs, mf, rfl, hsc, hfr, hb3⟩
          obtain ⟨v3a, v3c, rfl⟩ := hfr.slice
          have hxl : xs.length ≤ 10000 ∧ mf ≤ 65536 := by
            have := hsc.len HDL.out.2
            have h9 := HDL.out.1
            unfold Fr.plainF at this
            rw [List.length_map] at this
            omega
          have HXL := Lib.hid hxl
          have HFR := Lib.hid hfr
          have HS3 := Lib.hid hsc
          have HB3 := Lib.hid (HB2.out.trans (hb3.mono HB2.out.size))
          have HBW3 : Hid (Below w.heap.size w w3) := HB1.out.trans (HB3.out.mono HB1.out.size)
          have HE3 : Hid (Ents w3 w1.heap.size (.slice fa es.length fc) es) := (HE.out.keep (HCP.out.2)).keep (by have := HCP.out.2; exact hb3)
          have hZ2 := HB2.out.size
          have hZ3 := hb3.size
          clear hsc hfr hb3 HSC HCP HE hxl
          have ci := HCI.out w3 HBW3.out
          have HEN := Lib.hid (entries_any id w2.heap.size (.slice v3a xs.length v3c) xs w3 HFR.out hZ3 (by have := HXL.out.1; omega))
          clear HFR
          go_wp2_with fail
          refine HEN.out.mono ?_; rintro e w4 ⟨v4, rfl, hE4, ho4, ⟨g4, c4, rfl⟩, hb4⟩
          have HE4 := Lib.hid hE4
          have HO4 := Lib.hid ho4
          have HB4 := Lib.hid (HB3.out.trans (hb4.mono HB3.out.size))
          have HF4 := Lib.hid (HE3.out.keep hb4)
          have HZ4 : Hid (w1.heap.size ≤ w4.heap.size) := HB4.out.size
          have HNW : Hid (∀ (j : Nat) (u : Value), (cellsE (withId id xs))[j]? = some u → w4.cell? (Addr.add ⟨g4, 0, none⟩ j) = some u) := fun j u hu => by
            rw [Addr.add_mid, Nat.zero_add]
            by_cases hx : 0 < xs.length
            · obtain ⟨g', e', _, _, hc'⟩ := ownsRow_at HO4.out hx
              cases e'
              exact hc' j u hu
            · have hx0 : xs = [] := List.length_eq_zero_iff.1 (by omega)
              subst hx0; cases hu
          have HNL : Hid ((cellsE (withId id xs)).length = xs.length * 3) := by show _ = _; rw [cellsE_length]; unfold withId; rw [List.length_map]
          have HON : Hid (∀ u ∈ cellsE (withId id xs), u.oneCell' = true) := fun u hu => by
            unfold cellsE withId at hu
            obtain ⟨t, ht, hu⟩ := List.mem_flatMap.1 hu
            obtain ⟨t0, ht0, rfl⟩ := List.mem_map.1 ht
            obtain ⟨a0, c0, e0⟩ : ∃ a c, t0.2.2 = .slice a t0.2.1.length c := (HE4.out.pay _ ht).slice
            simp only [List.mem_cons, List.not_mem_nil, or_false] at hu
            rcases hu with rfl | rfl | rfl
            · rfl
            · rfl
            · show (t0.2.2).oneCell' = true
              rw [e0]; rfl
          have HLM : Hid (es.length + xs.length ≤ maxLen) := by show _ ≤ _; have := HEL.out; have := HXL.out.1; unfold maxLen; omega
          have HLB : Hid ((es.length + xs.length) * 40 ≤ 140737488355328) := by show _ ≤ _; have := HEL.out; have := HXL.out.1; omega
          have HPAY : Hid (∀ t ∈ withId id xs, Fr.OwnB w4 w1.heap.size t.2.2.2 t.2.2.1) := fun t ht => own_mono (HE4.out.pay t ht) hZ2
          have HPL : Hid (plainE (es ++ withId id xs) = plainE es ++ idF id (Fr.plainF xs)) := by show _ = _; rw [plainE_append, plainE_withId]
          have HWL : Hid ((withId id xs).length = xs.length) := by show _ = _; unfold withId; rw [List.length_map]
          have HRD : Hid (ReadsA A (ids.take (i + 1)) (plainE es ++ idF id (Fr.plainF xs)) (decide (mf = data.length))) := by
            show ReadsA _ _ _ _
            rw [HTK.out]
            have e1 : (readA A (nameV id)).1 = data := by rw [← HRE.out]
            have e2 : (readA A (nameV id)).2 = 0 := by rw [← HRE.out]
            have := ReadsA.snoc HR.out e2 (by rw [e1]; exact HS3.out)
            rwa [e1] at this
          generalize hnl : xs.length = nl at *
          generalize hec : cellsE (withId id xs) = ec at HNW HNL HON
          have HEC := Lib.hid hec
          clear hec ci hE4 ho4 hb4 HEN
          go_wp2_with (with_reducible refine wpList_append_own_at _ rfl (.tmp 46) (.tmp 52) 51 rfl w1.heap.size 120 i0 (.agg #[.int .i64 0, .int .i64 0, .slice none 0 0]) 3 40 Tryz.underlying51 HI.out HZ0.out HZ1.out HZ2.out rfl (by decide) (.slice fa es.length fc) es.length (cellsE es) rfl HF4.out.own ⟨g4, 0, none⟩ nl c4 ec rfl HNL.out HNW.out HON.out HLM.out HLB.out HZ4.out ?_)
          intro v5 w5 ho5 hg5 _ _
          have hE5 : Ents w5 w1.heap.size v5 (es ++ withId id xs) := ents_append HF4.out HPAY.out hg5 (by rw [List.length_append, HWL.out]) (by rw [HEC.out]; exact ho5)
          have hB5 : Below w1.heap.size w1 w5 := HB4.out.grown hg5 HB4.out.size fun j hj => (HF4.out.own.lt j hj).1
          obtain ⟨a5, c5, rfl⟩ := own_slice ho5
          have HE5 := Lib.hid hE5
          have HB5 := Lib.hid hB5
          have HLN : Hid (es.length + nl = (es ++ withId id xs).length) := by show _ = _; rw [List.length_append, HWL.out]
          clear ho5 hg5 hE5 hB5 HNW HON
          go_wp2_with fail
          go_roundw
          case rel => exact ⟨i + 1, es ++ withId id xs, _, a5, _, c5, by omega, by go_num, rfl, rfl, HLN.out, HE5.out, by rw [HPL.out, eq_dec]; exact HRD.out, by rw [← HLN.out]; have := HEL.out; have := HXL.out.1; omega, HB5.out⟩
          case measure => simp [intOf]; omega
        · have hc' : (code == 0) = false := by simpa using hc
          have HCN := Lib.hid hc
          have e2 : (readA A (nameV id)).2 = code := by rw [← HRE.out]
          have HE2 := Lib.hid e2
          clear hc e2
          go_wp2_with fail
          refine bodyPost_ret (v := .tuple #[.slice none 0 0, .bool false, .int .i64 code]) (by simp [results, Tryz.results20, go_sem]) rfl ⟨HBW2.out, .inr ⟨HALL.out, .inr ⟨i, plainE es, b, by rw [← HM.out]; exact hlt, HR.out, ?_, ?_⟩⟩⟩
          · rw [← HID.out, HE2.out]; exact HCN.out
          · rw [← HID.out, HE2.out]
      · have l1 : ¬ (i : Int) < m := by omega
        obtain rfl : i = m := by omega
        have HTA : Hid (ids.take i = ids) := by show _ = _; rw [HM.out, List.take_length]
        clear hlt
        go_wp2_with fail
        refine bodyPost_ret (v := .tuple #[.slice fa es.length fc, .bool b, .int .i64 0]) (by simp [results, Tryz.results20, go_sem]) rfl ⟨HBW.out, .inr ⟨HALL.out, .inl ⟨_, es, b, rfl, by rw [← HTA.out]; exact HR.out, HE.out.mono HB1.out.size, by rw [← HM.out]; exact HEL.out⟩⟩⟩
  · have HBB := Lib.hid hb1
    have HBD := Lib.hid hbad
    clear hb1 hbad HNO
    go_wp2_with fail
    refine bodyPost_ret (v := .tuple #[.slice none 0 0, .bool false, .int .i64 1]) (by simp [results, Tryz.results20, go_sem]) rfl ⟨HBB.out, .inl ⟨HBD.out, rfl⟩⟩
end
end Go.Proofs.YtigbgajelkknbaaGreatDoor
