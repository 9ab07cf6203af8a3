/- The reference of layer 2 (rubricref02): what 'Crash' leaves; a region whose head loads and lays one block, in whatever order. -/
import Derived.Test.YtpfbiijcmmkjlaaFsRm
import Derived.OrdersHeld
import Derived.Deep.RegionHeld
namespace Go.Proofs.Ytpfbiijcmmkjlaa
open Go.RowKit

/-- A region that draws its order: its first n operations under a condition on the world; the rest waits for all of them. -/
theorem wp_region_tail_held {P : Program} {Q : Exit → Act → World → Prop} {id : Nat} {a : Act} {w : World} {l : List Oper} (S : World → Prop) (n : Nat) (hm : P.follows .mixedOrders = true) (hB : (tailB .any l.toArray n && Region.lexB .any (l.take n).toArray) = true)
    (h : wpAnyH P .any (l.take n).toArray (headQ Q fun a' w' => wpAny P .any l.toArray Q (l.length - n) (fullL l.toArray n) a' w') S n (Array.replicate n false) a w.drew) : (Code.region id l.toArray true).wp P Q a w := by
  simp only [Bool.and_eq_true] at hB
  obtain ⟨h1, h2⟩ := hB
  have ok := tailOk h1
  have hn : n ≤ l.length := by have := ok.le; simp at this; omega
  refine wp_region_any hm ?_
  have hlen : (l.take n).length = n := by simp [hn]
  have hx := wpAny_of_held _ _ _ _ h
  have key := wpAny_tail (P := P) (md := .any) (g := l.length - n) (Q := Q) ok (head := (l.take n).toArray) (fun i hi => by simp [hi]) n
    (List.replicate n false) (List.replicate l.length false) a { w with drawn := w.drawn + 1 } (by simp) (by simp; omega) ⟨by simp, fun j oj _ hl => (by rw [show (List.replicate l.length false).toArray = Array.replicate l.length false by simp, getD_replicate_false] at hl; cases hl), fun t _ ht => getD_in (by simpa using ht) (by rw [show (List.replicate l.length false).toArray = Array.replicate l.length false by simp, getD_replicate_false])⟩ (by simp) (by
      have e : (Array.replicate n false) = (List.replicate n false).toArray := by simp
      rw [e] at hx; exact hx)
  rw [show n + (l.length - n) = l.toArray.size by simp; omega] at key
  have e : (Array.replicate l.toArray.size false) = (List.replicate l.length false).toArray := by simp
  rw [e]; exact key
/-- Behind the head: the tail, one by one. -/
theorem head_done {P : Program} {Q : Exit → Act → World → Prop} {a : Act} {w : World} {l : List Oper} (n : Nat) (hB : Region.seqB .any l.toArray (l.length - n) n (fullL l.toArray n) = true) (h : wpList P l.toArray Q (l.drop n) a w) :
    headQ Q (fun a' w' => wpAny P .any l.toArray Q (l.length - n) (fullL l.toArray n) a' w') .normal a w := by
  have := wpAny_of_seq (P := P) (Q' := Q) (l.drop n) n (fullL l.toArray n) a w (fun j => by simp) (by simpa using hB) h
  rw [List.length_drop] at this
  exact this
/-- The names behind so many changes. -/
def preR (R : RSt) (i : Nat) : List RN := (R.changes.take i).foldl turnR R.sure
/-- What a crash keeps of a file. -/
def cutN (x : RN) (t : Int) : Int := if 0 < t then (if (x.1.size : Int) - x.2 < t then x.1.size else x.2 + t) else x.2
def cutR (R : RSt) (tails : List Int) (i : Nat) : RN := ((fileR R i).1.extract 0 (cutN (fileR R i) (tails.getD i 0)).toNat, cutN (fileR R i) (tails.getD i 0))
/-- Names, numbered. -/
def numb (l : List RN) : List RN := l.zipIdx.map fun x => (x.1.1, (x.2 : Int))
/-- How many changes are done. -/
def doneR (R : RSt) (dirs : Int) : Nat := (min (max dirs 0) R.changes.length).toNat
/-- What 'Crash' leaves. -/
def crashR (R : RSt) (dirs : Int) (tails : List Int) : RSt :=
  { emptyR with room := R.room, left := -1, files := (preR R (doneR R dirs)).map (fun d => cutR R tails d.2.toNat), dir := numb (preR R (doneR R dirs)), sure := numb (preR R (doneR R dirs)) }
theorem numb_length (l : List RN) : (numb l).length = l.length := by unfold numb; simp
theorem numb_take (l : List RN) {i : Nat} (hi : i < l.length) : numb (l.take (i + 1)) = numb (l.take i) ++ [((l[i]).1, (i : Int))] := by
  rw [List.take_succ_eq_append_getElem hi]
  unfold numb
  rw [List.zipIdx_append, List.map_append]
  simp [List.length_take, Nat.min_eq_left (Nat.le_of_lt hi)]
theorem preR_succ (R : RSt) {i : Nat} (hi : i < R.changes.length) : preR R (i + 1) = turnR (preR R i) R.changes[i] := by
  unfold preR; rw [List.take_succ_eq_append_getElem hi, List.foldl_append]; rfl
theorem preR_length (R : RSt) (hk : ROk R) : ∀ i, (preR R i).length ≤ R.sure.length + 2 * i
  | 0 => by unfold preR; simp
  | i + 1 => by
    have h0 := preR_length R hk i
    by_cases hi : i < R.changes.length
    · rw [preR_succ R hi]
      have h1 := turnR_length R.changes[i] (preR R i)
      have h2 := hk.each _ (List.getElem_mem hi)
      omega
    · have : preR R (i + 1) = preR R i := by unfold preR; rw [List.take_of_length_le (by omega), List.take_of_length_le (by omega)]
      rw [this]; omega
/-- An append of names to what the call owns, from any slice of them, as a step of the walk. -/
theorem wpList_append_rn {ops : Array Oper} {rest : List Oper} {o : Oper} {a : Act} {w w0 : World} {Q : Exit → Act → World → Prop} (hgd : o.guard = none) (s x : Operand)
    (ho : o.op = .call { callee := .builtin .append, args := #[s, x], argTypes := #[29, 29] })
    (base : Nat) (v u : Value) (ys p : List RN) (hs : a.eval s = v) (hown : OwnRN base w v ys) (hx : a.eval x = u) (hp : RNames w0 u p) (hb : Below w0.heap.size w0 w) (hle : ys.length + p.length ≤ 1000000) (hbase : base ≤ w.heap.size)
    (h : ∀ v' w', OwnRN base w' v' (ys ++ p) → w.grownBy w' v.ownBlock → wpList Try.prog ops Q rest (a.put o.dst v') w') : wpList Try.prog ops Q (o :: rest) a w := by
  obtain ⟨i0, hi, hz0, hz1, hz2⟩ := info_parts rnInfo
  rcases hp with ⟨rfl, rfl⟩ | ⟨pb, po, cap, rfl, h3, h4⟩
  · refine wpList_append_own_none hgd s x 29 ho base 73 i0 2 Try.underlying29 hi v ys.length (flatRN ys) hs hown hx ?_
    exact h v w (by rw [List.append_nil]; exact hown) ⟨rfl, rfl, rfl, Nat.le_refl _, fun _ _ _ => rfl⟩
  · refine wpList_append_own w hgd s x 29 ho base 73 i0 (.agg #[.string ⟨#[]⟩, .int .i64 0]) 2 24 Try.underlying29 hi hz0 hz1 hz2 rfl (by decide) v ys.length (flatRN ys) hs hown ⟨pb, po, none⟩ p.length cap (flatRN p) hx
      (flatRN_length p) (fun j u hu => ?_) (flatRN_one p) (by unfold maxLen; omega) (by omega) hbase ?_
    · obtain ⟨n, hn, hc⟩ := flatRN_get p j u hu
      obtain ⟨g1, g2⟩ := h4 _ n hn
      rw [Addr.add_mid, World.cell?_of_block (w := w0) (hb.block pb h3)]
      rcases hc with ⟨hm, rfl⟩ | ⟨hm, rfl⟩
      · rwa [show po + j / 2 * 2 = po + j by omega] at g1
      · rwa [show po + j / 2 * 2 + 1 = po + j by omega] at g2
    · intro v' w' h1 h2 _
      refine h v' w' ?_ h2
      unfold OwnRN
      rw [List.length_append, flatRN_append]; exact h1
/-- What is being left, as it lies in memory: three boxes, two rows of one's own, the names that are gone through. -/
structure Lp (w : World) (B : Nat) (room : Int) (box : List Value) (lv : Value) (D : List RN) (W : World) (fv dv : Value) (F N : List RN) : Prop where
  k0 : Blk W w.heap.size 33 box
  k1 : Blk W (w.heap.size + 1) 33 zeroC
  kc : Blk W (w.heap.size + 2) 33 [.int .i64 room, fv, dv, .slice none 0 0, .slice none 0 0, .int .i64 0, .int .i64 (-1), .slice none 0 0]
  f : OwnRF B W fv F
  d : OwnRN B W dv N
  l : RNames W lv D
  lo : ∀ j, lv.ownBlock = some j → j < B ∧ j ≠ w.heap.size + 2
  b : Below w.heap.size w W
  b3 : w.heap.size + 3 ≤ B
  sz : B ≤ W.heap.size
section
variable {w : World} {B : Nat} {room : Int} {box : List Value} {lv : Value} {D : List RN} {W W' : World} {fv dv v' : Value} {F N F' : List RN}
theorem Lp.below (h : Lp w B room box lv D W fv dv F N) (hb : Below W.heap.size W W') : Lp w B room box lv D W' fv dv F N :=
  ⟨(hb.block _ h.k0.lt).trans h.k0, (hb.block _ h.k1.lt).trans h.k1, (hb.block _ h.kc.lt).trans h.kc, ownsRow_to h.f fun k _ e _ => hb.block k (Array.getElem?_eq_some_iff.1 e).1, ownsRow_to h.d fun k _ e _ => hb.block k (Array.getElem?_eq_some_iff.1 e).1,
    h.l.below hb, h.lo, h.b.trans (hb.mono h.b.size), h.b3, Nat.le_trans h.sz hb.size⟩
theorem own_tag {base e size : Nat} {v : Value} {n : Nat} {xs : List Value} {k : Nat} (h : W.ownsRow base e size v n xs) (hk : v.ownBlock = some k) : ∃ cur, W.heap[k]? = some (.cells cur e (0, 0)) ∧ base ≤ k := by
  rcases h.2 with ⟨rfl, _⟩ | ⟨x, cap, cur, rfl, hb, hh, _⟩
  · cases hk
  · cases hk; exact ⟨cur, hh, hb⟩
theorem Lp.fileStored (h : Lp w B room box lv D W fv dv F N) (hg : W.grownBy W' fv.ownBlock) (ho : OwnRF B W' v' F') : Lp w B room box lv D (W'.setCell ⟨w.heap.size + 2, 1, none⟩ v') v' dv F' N := by
  have h3 := h.b3
  have hsz := h.sz
  have nf : ∀ k, k < B → fv.ownBlock ≠ some k := fun k hk e => by obtain ⟨_, _, hb⟩ := own_tag h.f e; omega
  have st : ∀ k, k < B → k ≠ w.heap.size + 2 → (W'.setCell ⟨w.heap.size + 2, 1, none⟩ v').heap[k]? = W.heap[k]? := fun k h1 h2 => by
    rw [heap_setCell_other _ _ k _ h2]; exact hg.block k (by omega) fun e => nf k h1 e.symm
  have hkc : Blk W' (w.heap.size + 2) 33 [.int .i64 room, fv, dv, .slice none 0 0, .slice none 0 0, .int .i64 0, .int .i64 (-1), .slice none 0 0] := (hg.block (w.heap.size + 2) (by omega) fun e => nf (w.heap.size + 2) (by omega) e.symm).trans h.kc
  refine ⟨(st _ (by omega) (by omega)).trans h.k0, (st _ (by omega) (by omega)).trans h.k1, hkc.set 1 v', ?_, ?_, ?_, h.lo, ?_, h.b3, ?_⟩
  · refine ownsRow_to ho fun k cur _ o => heap_setCell_other _ _ k _ ?_
    obtain ⟨_, _, hb⟩ := own_tag ho o
    show k ≠ w.heap.size + 2; omega
  · refine ownsRow_to h.d fun k cur e o => ?_
    obtain ⟨_, _, hb⟩ := own_tag h.d o
    rw [heap_setCell_other _ _ k _ (show k ≠ w.heap.size + 2 by omega)]
    refine hg.block k (Array.getElem?_eq_some_iff.1 e).1 fun e2 => ?_
    obtain ⟨cur2, e3, _⟩ := own_tag h.f e2.symm
    rw [e] at e3
    cases e3
  · exact h.l.to fun k hk => st k (h.lo k hk).1 (h.lo k hk).2
  · exact (h.b.grown hg h.b.size fun j hj => by obtain ⟨_, _, hb⟩ := own_tag h.f hj; omega).setCell (p := ⟨w.heap.size + 2, 1, none⟩) (by show w.heap.size ≤ w.heap.size + 2; omega) _
  · rw [World.size_setCell]; exact Nat.le_trans h.sz hg.size
theorem Lp.nameStored (h : Lp w B room box lv D W fv dv F N) (hg : W.grownBy W' dv.ownBlock) (ho : OwnRN B W' v' F') : Lp w B room box lv D (W'.setCell ⟨w.heap.size + 2, 2, none⟩ v') fv v' F F' := by
  have h3 := h.b3
  have hsz := h.sz
  have nf : ∀ k, k < B → dv.ownBlock ≠ some k := fun k hk e => by obtain ⟨_, _, hb⟩ := own_tag h.d e; omega
  have st : ∀ k, k < B → k ≠ w.heap.size + 2 → (W'.setCell ⟨w.heap.size + 2, 2, none⟩ v').heap[k]? = W.heap[k]? := fun k h1 h2 => by
    rw [heap_setCell_other _ _ k _ h2]; exact hg.block k (by omega) fun e => nf k h1 e.symm
  have hkc : Blk W' (w.heap.size + 2) 33 [.int .i64 room, fv, dv, .slice none 0 0, .slice none 0 0, .int .i64 0, .int .i64 (-1), .slice none 0 0] := (hg.block (w.heap.size + 2) (by omega) fun e => nf (w.heap.size + 2) (by omega) e.symm).trans h.kc
  refine ⟨(st _ (by omega) (by omega)).trans h.k0, (st _ (by omega) (by omega)).trans h.k1, hkc.set 2 v', ?_, ?_, ?_, h.lo, ?_, h.b3, ?_⟩
  · refine ownsRow_to h.f fun k cur e o => ?_
    obtain ⟨_, _, hb⟩ := own_tag h.f o
    rw [heap_setCell_other _ _ k _ (show k ≠ w.heap.size + 2 by omega)]
    refine hg.block k (Array.getElem?_eq_some_iff.1 e).1 fun e2 => ?_
    obtain ⟨cur2, e3, _⟩ := own_tag h.d e2.symm
    rw [e] at e3
    cases e3
  · refine ownsRow_to ho fun k cur _ o => heap_setCell_other _ _ k _ ?_
    obtain ⟨_, _, hb⟩ := own_tag ho o
    show k ≠ w.heap.size + 2; omega
  · exact h.l.to fun k hk => st k (h.lo k hk).1 (h.lo k hk).2
  · exact (h.b.grown hg h.b.size fun j hj => by obtain ⟨_, _, hb⟩ := own_tag h.d hj; omega).setCell (p := ⟨w.heap.size + 2, 2, none⟩) (by show w.heap.size ≤ w.heap.size + 2; omega) _
  · rw [World.size_setCell]; exact Nat.le_trans h.sz hg.size
end
end Go.Proofs.Ytpfbiijcmmkjlaa
