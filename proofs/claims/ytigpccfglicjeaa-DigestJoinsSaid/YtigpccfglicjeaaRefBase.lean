/- The reference's digest, in steps: what its padding comes to. -/
import Derived.Test.YtigpccfglicjeaaJoined
import Derived.Test.YtigpccfglicjeaaTail
import Derived.Laws.AppendOwnNone
namespace Go.Proofs.Ytigpccfglicjeaa
open Go.RowKit

/-- The bytes v own just these. -/
def OwnB (w : World) (base : Nat) (v : Value) (ys : List Int) : Prop := w.ownsRow base 5 1 v ys.length (ys.map (Value.int .u8))
theorem OwnB.slice {w : World} {base : Nat} {v : Value} {ys : List Int} (h : OwnB w base v ys) : ∃ a c, v = .slice a ys.length c := by
  rcases h.2 with ⟨rfl, h0⟩ | ⟨g, cap, cur, rfl, _⟩
  · exact ⟨none, 0, by rw [h0]⟩
  · exact ⟨_, _, rfl⟩
theorem OwnB.blk {w w' : World} {base k : Nat} {v : Value} {ys : List Int} {t : TypeId} {cs : List Value} (h : OwnB w base v ys) (hg : w.grownBy w' v.ownBlock) (hk : k < base) (hb : Blk w k t cs) : Blk w' k t cs := by
  unfold Blk; rw [hg.block k hb.lt (fun e => by have := h.lt k e.symm; omega)]; exact hb
theorem byteInfo : (Try.prog.info? 5).map (fun i => (i.zero, i.size, i.bytes)) = some (some (.int .u8 0), 1, 1) := by kernel_rfl
theorem wpList_build_is {P : Program} {ops : Array Oper} {rest : List Oper} {o : Oper} {a : Act} {w : World} {Q : Exit → Act → World → Prop} (hg : o.guard = none) (t : TypeId) (parts : Array (Nat × Operand)) (ho : o.op = .build t parts)
    (cs : Array Value) (hf : P.built t (parts.map fun (i, x) => (i, a.eval x)).toList = some cs)
    (h : wpList P ops Q rest (a.put o.dst (.agg cs)) w) : wpList P ops Q (o :: rest) a w :=
  wpList_build hg t parts ho (by rw [hf]; rfl) (by rw [hf]; exact h)

/-- An append of bytes to what the call owns, as a step of the walk. -/
theorem wpList_append_bytes {ops : Array Oper} {rest : List Oper} {o : Oper} {a : Act} {w : World} {Q : Exit → Act → World → Prop} (hgd : o.guard = none) (s x : Operand)
    (ho : o.op = .call { callee := .builtin .append, args := #[s, x], argTypes := #[22, 22] })
    (base : Nat) (v : Value) (ys : List Int) (hs : a.eval s = v) (hown : OwnB w base v ys) (b off m c : Nat) (news : List Int) (hx : a.eval x = .slice (some ⟨b, off, none⟩) m c) (hl : news.length = m)
    (hnews : w.rangeAt b off (news.map (Value.int .u8))) (hle : ys.length + m ≤ 140737488355328) (hbase : base ≤ w.heap.size)
    (h : ∀ v' w', OwnB w' base v' (ys ++ news) → w.grownBy w' v.ownBlock → wpList Try.prog ops Q rest (a.put o.dst v') w') : wpList Try.prog ops Q (o :: rest) a w := by
  obtain ⟨i0, hi, hz0, hz1, hz2⟩ := info_parts byteInfo
  refine wpList_append_own w hgd s x 22 ho base 5 i0 (.int .u8 0) 1 1 Try.underlying22 hi hz0 hz1 hz2 rfl (by decide) v ys.length (ys.map (Value.int .u8)) hs hown ⟨b, off, none⟩ m c (news.map (Value.int .u8)) hx
    (by simpa using hl) (fun j u hu => by rw [Addr.add_mid]; exact hnews j u hu) (ones_int _ _) (by unfold maxLen; omega) (by omega) hbase ?_
  intro v' w' h1 h2 _
  refine h v' w' ?_ h2
  unfold OwnB
  rw [List.length_append, hl, List.map_append]; exact h1
/-- The same, from any slice of bytes that came in. -/
theorem wpList_append_bytesArg {ops : Array Oper} {rest : List Oper} {o : Oper} {a : Act} {w w0 : World} {Q : Exit → Act → World → Prop} (hgd : o.guard = none) (s x : Operand)
    (ho : o.op = .call { callee := .builtin .append, args := #[s, x], argTypes := #[22, 22] })
    (base : Nat) (v u : Value) (ys p : List Int) (hs : a.eval s = v) (hown : OwnB w base v ys) (hx : a.eval x = u) (hp : Bytes w0 u p) (hb : Below w0.heap.size w0 w) (hle : ys.length + p.length ≤ 140737488355328) (hbase : base ≤ w.heap.size)
    (h : ∀ v' w', OwnB w' base v' (ys ++ p) → w.grownBy w' v.ownBlock → wpList Try.prog ops Q rest (a.put o.dst v') w') : wpList Try.prog ops Q (o :: rest) a w := by
  rcases hp with ⟨rfl, rfl⟩ | ⟨pb, po, cap, rfl, h2, h3, h4⟩
  · obtain ⟨i0, hi, hz0, hz1, hz2⟩ := info_parts byteInfo
    refine wpList_append_own_none hgd s x 22 ho base 5 i0 1 Try.underlying22 hi v ys.length (ys.map (Value.int .u8)) hs hown hx ?_
    exact h v w (by rw [List.append_nil]; exact hown) ⟨rfl, rfl, rfl, Nat.le_refl _, fun _ _ _ => rfl⟩
  · exact wpList_append_bytes hgd s x ho base v ys hs hown pb po p.length cap p hx rfl (fun j y hy => by rw [World.cell?_of_block (w := w0) (hb.block pb h3)]; exact h4 j y hy) hle hbase h

/-- The first j of the length's eight bytes. -/
def lenDone (n : Int) : Nat → List Int
  | 0 => []
  | j + 1 => lenDone n j ++ [n / 2 ^ (8 * (7 - j)) % 256]
theorem lenDone_length (n : Int) : ∀ j, (lenDone n j).length = j
  | 0 => rfl
  | j + 1 => by rw [lenDone, List.length_append, lenDone_length n j]; rfl
def padZ (n : Nat) : Nat := (120 - (n + 1) % 64) % 64
/-- What the reference's Sum goes over. -/
def padM (p : List Int) : List Int := p ++ [128] ++ zerosI (padZ p.length) ++ lenDone ((p.length : Int) * 8) 8
theorem lenDone_is (n : Int) : lenDone n 8 = bytesI (n / 4294967296) ++ bytesI n := by
  simp only [lenDone, bytesI, List.nil_append, List.cons_append, Nat.reduceSub, Nat.reduceMul, Int.reducePow]
  refine List.ext_getElem? fun i => ?_
  match i with
  | 0 => simp; omega
  | 1 => simp; omega
  | 2 => simp; omega
  | 3 => simp
  | 4 => simp
  | 5 => simp
  | 6 => simp
  | 7 => simp
  | i + 8 => simp
theorem sumI_pad (p : List Int) : sumI p = (feed kTab initI (padM p)).h.flatMap bytesI := by
  unfold sumI endI padI padM
  rw [lenDone_is, feed_append, feed_append, feed_append, feed_append]
  have h1 : (feed kTab initI p).n = p.length := by rw [feed_n]; show 0 + _ = _; omega
  have h2 : (feed kTab (feed kTab initI p) [128]).n = p.length + 1 := by rw [feed_n, h1]; rfl
  simp only [h1, h2, padZ]

/-- The reference's own blocks, whatever else has been made. -/
structure RefAt (w : World) (g4 N : Nat) (KV : List Value) (h : List Int) (wr : World) : Prop where
  r : Blk wr w.heap.size 24 ((zerosI 32).map (Value.int .u8))
  k : Blk wr (w.heap.size + 1) 46 KV
  h : Blk wr g4 47 (h.map (Value.int .u32))
  b : Below w.heap.size w wr
  l1 : w.heap.size + 1 < g4
  l2 : g4 < N
  l3 : N ≤ wr.heap.size
theorem RefAt.to {w wr wr' : World} {g4 N : Nat} {KV : List Value} {h : List Int} (s : RefAt w g4 N KV h wr) (hb : Below N wr wr') : RefAt w g4 N KV h wr' :=
  have l1 := s.l1; have l2 := s.l2; have l3 := s.l3
  ⟨Below.blk hb (by omega) s.r, Below.blk hb (by omega) s.k, Below.blk hb (by omega) s.h, s.b.trans (hb.mono (by omega)), s.l1, s.l2, Nat.le_trans s.l3 hb.size⟩
theorem OwnB.below {w w' : World} {base : Nat} {v : Value} {ys : List Int} (h : OwnB w base v ys) (hg : w.grownBy w' v.ownBlock) (hb : base ≤ w.heap.size) : Below base w w' :=
  (Below.refl base w).grown hg hb fun k hk => (h.lt k hk).1
theorem OwnB.alloc {w : World} {base : Nat} {v : Value} {ys : List Int} (h : OwnB w base v ys) (o : Obj) : OwnB (w.alloc o) base v ys := World.ownsRow.alloc h o
theorem Bytes.slice' {w : World} {v : Value} {p : List Int} (h : Bytes w v p) : ∃ a c, v = .slice a p.length c := by
  rcases h with ⟨rfl, rfl⟩ | ⟨pb, po, cap, rfl, _⟩
  · exact ⟨_, _, rfl⟩
  · exact ⟨_, _, rfl⟩
theorem one_range {w : World} {x : Int} {t : TypeId} : (w.alloc (.cells #[Value.int .u8 x] t)).rangeAt w.heap.size 0 ([x].map (Value.int .u8)) := fun j u hu => by
  rw [Nat.zero_add]; exact (Blk.new w t [Value.int .u8 x]).cell hu

theorem rng_set {w : World} {b o : Nat} {cs : List Value} (h : w.rangeAt b o cs) {a : Addr} (ha : b ≠ a.block) (u : Value) : (w.setCell a u).rangeAt b o cs := fun j v hv => by
  rw [World.cell?_setCell_other _ _ _ _ (fun e => ha (by rw [e]))]; exact h j v hv
theorem rng_of {w w' : World} {b o : Nat} {cs : List Value} (h : w.rangeAt b o cs) (hb : w'.heap[b]? = w.heap[b]?) : w'.rangeAt b o cs := fun j v hv => by
  rw [World.cell?_of_block (w := w) hb]; exact h j v hv
/-- Within a block's round: the words in block gw; m: the padded bytes in block gm. -/
structure InAt (w : World) (g4 N : Nat) (KV : List Value) (h : List Int) (gm : Nat) (M : List Int) (gw : Nat) (ws : List Int) (wr : World) : Prop where
  ref : RefAt w g4 N KV h wr
  m : wr.rangeAt gm 0 (M.map (Value.int .u8))
  gm1 : N ≤ gm
  gm2 : gm < gw
  s : Blk wr gw 46 (fill 64 (.int .u32 0) (ws.map (Value.int .u32)))
theorem InAt.drewN {w : World} {g4 N gm gw : Nat} {KV : List Value} {h M ws : List Int} {wr : World} (s : InAt w g4 N KV h gm M gw ws wr) (n : Nat) : InAt w g4 N KV h gm M gw ws (wr.drewN n) :=
  ⟨s.ref.to (Below.drewN (Below.refl _ _) n), s.m, s.gm1, s.gm2, s.s⟩
theorem InAt.step {w : World} {g4 N gm gw : Nat} {KV : List Value} {h M ws : List Int} {wr : World} (s : InAt w g4 N KV h gm M gw ws wr) (hw : ws.length < 64) (x : Int) (i : Nat) (hi : i = ws.length) :
    InAt w g4 N KV h gm M gw (ws ++ [x]) (wr.setCell ⟨gw, i, none⟩ (.int .u32 x)) where
  ref := s.ref.to ((Below.refl _ _).setCell (by have := s.gm1; have := s.gm2; show N ≤ gw; omega) _)
  m := rng_set s.m (by have := s.gm2; show gm ≠ gw; omega) _
  gm1 := s.gm1
  gm2 := s.gm2
  s := by
    subst hi
    have h1 := s.s.set ws.length (.int .u32 x)
    have := fill_set (n := 64) (z := .int .u32 0) (v := Value.int .u32 x) (vs := ws.map (Value.int .u32)) (by simpa using hw)
    rw [List.length_map] at this
    rw [this] at h1
    rw [List.map_append]; exact h1
theorem InAt.next {w : World} {g4 N gm gw : Nat} {KV : List Value} {h M ws : List Int} {wr : World} (s : InAt w g4 N KV h gm M gw ws wr) (hw : ws.length < 64) (i : Nat) (hi : i = ws.length) : wr.cell? ⟨gw, i, none⟩ = some (.int .u32 0) := by
  subst hi
  refine s.s.cell ?_
  have := fill_next (n := 64) (z := .int .u32 0) (vs := ws.map (Value.int .u32)) (by simpa using hw)
  rw [List.length_map] at this; exact this
theorem InAt.word {w : World} {g4 N gm gw : Nat} {KV : List Value} {h M ws : List Int} {wr : World} (s : InAt w g4 N KV h gm M gw ws wr) (j : Nat) (hj : j < ws.length) : wr.cell? ⟨gw, j, none⟩ = some (.int .u32 (ws.getD j 0)) := by
  refine s.s.cell ?_
  unfold fill
  rw [List.getElem?_append_left (by simpa using hj), List.getElem?_map, getD_some hj]; rfl
theorem InAt.byte {w : World} {g4 N gm gw : Nat} {KV : List Value} {h M ws : List Int} {wr : World} (s : InAt w g4 N KV h gm M gw ws wr) (A i : Nat) (hi : i < 64) (hA : A + 64 ≤ M.length) :
    wr.cell? ⟨gm, A + i, none⟩ = some (.int .u8 (((M.drop A).take 64).getD i 0)) := by
  have := s.m (A + i) (.int .u8 (((M.drop A).take 64).getD i 0)) (by
    rw [List.getElem?_map, List.getD_eq_getElem?_getD, List.getElem?_take_of_lt hi, List.getElem?_drop, List.getElem?_eq_getElem (by omega)]; rfl)
  rwa [Nat.zero_add] at this
theorem movedI_ref (x a b : Int) : bits .xor .u32 (bits .xor .u32 (rotI x a) (rotI x b)) (x / 8) = movedI x a b 3 := rfl
theorem movedI_ref' (x a b : Int) : bits .xor .u32 (bits .xor .u32 (rotI x a) (rotI x b)) (x / 1024) = movedI x a b 10 := rfl

theorem RefAt.setH {w wr : World} {g4 N : Nat} {KV : List Value} {h : List Int} (s : RefAt w g4 N KV h wr) (j : Nat) (x : Int) : RefAt w g4 N KV (h.set j x) (wr.setCell ⟨g4, j, none⟩ (.int .u32 x)) where
  r := s.r.set_other (a := ⟨g4, j, none⟩) (by have := s.l1; show w.heap.size ≠ g4; omega) _
  k := s.k.set_other (a := ⟨g4, j, none⟩) (by have := s.l1; show w.heap.size + 1 ≠ g4; omega) _
  h := by have := s.h.set j (.int .u32 x); rw [← List.map_set] at this; exact this
  b := s.b.setCell (by have := s.l1; show w.heap.size ≤ g4; omega) _
  l1 := s.l1
  l2 := s.l2
  l3 := by have := s.l3; simpa [World.setCell] using this
theorem RefAt.cell {w wr : World} {g4 N : Nat} {KV : List Value} {h : List Int} (s : RefAt w g4 N KV h wr) (j : Nat) (hj : j < h.length) : wr.cell? ⟨g4, j, none⟩ = some (.int .u32 (h.getD j 0)) :=
  s.h.cell (by rw [List.getElem?_map, getD_some hj]; rfl)
/-- Behind the words: the eight words in block gv. -/
structure In2 (w : World) (g4 N : Nat) (KV : List Value) (h : List Int) (gm : Nat) (M : List Int) (gw gv : Nat) (ws vs : List Int) (wr : World) : Prop where
  ref : RefAt w g4 N KV h wr
  m : wr.rangeAt gm 0 (M.map (Value.int .u8))
  gm1 : N ≤ gm
  gm2 : gm < gw
  gv2 : gw < gv
  s : Blk wr gw 46 (ws.map (Value.int .u32))
  v : Blk wr gv 47 (vs.map (Value.int .u32))
theorem In2.drewN {w : World} {g4 N gm gw gv : Nat} {KV : List Value} {h M ws vs : List Int} {wr : World} (s : In2 w g4 N KV h gm M gw gv ws vs wr) (n : Nat) : In2 w g4 N KV h gm M gw gv ws vs (wr.drewN n) :=
  ⟨s.ref.to (Below.drewN (Below.refl _ _) n), s.m, s.gm1, s.gm2, s.gv2, s.s, s.v⟩
theorem In2.setV {w : World} {g4 N gm gw gv : Nat} {KV : List Value} {h M ws vs : List Int} {wr : World} (s : In2 w g4 N KV h gm M gw gv ws vs wr) (vs' : List Int) : In2 w g4 N KV h gm M gw gv ws vs' (wr.setRow gv (vs'.map (Value.int .u32)).toArray) where
  ref := s.ref.to (Below.setRow (Below.refl _ _) (by have := s.gm1; have := s.gm2; have := s.gv2; omega) _)
  m := rng_of s.m (setRow_other _ _ _ _ (by have := s.gm2; have := s.gv2; omega))
  gm1 := s.gm1
  gm2 := s.gm2
  gv2 := s.gv2
  s := by unfold Blk; rw [setRow_other _ _ _ _ (by have := s.gv2; omega)]; exact s.s
  v := s.v.setRow
theorem In2.setH {w : World} {g4 N gm gw gv : Nat} {KV : List Value} {h M ws vs : List Int} {wr : World} (s : In2 w g4 N KV h gm M gw gv ws vs wr) (j : Nat) (x : Int) : In2 w g4 N KV (h.set j x) gm M gw gv ws vs (wr.setCell ⟨g4, j, none⟩ (.int .u32 x)) where
  ref := s.ref.setH j x
  m := rng_set s.m (by have := s.gm1; have := s.ref.l2; show gm ≠ g4; omega) _
  gm1 := s.gm1
  gm2 := s.gm2
  gv2 := s.gv2
  s := s.s.set_other (a := ⟨g4, j, none⟩) (by have := s.gm1; have := s.gm2; have := s.ref.l2; show gw ≠ g4; omega) _
  v := s.v.set_other (a := ⟨g4, j, none⟩) (by have := s.gm1; have := s.gm2; have := s.gv2; have := s.ref.l2; show gv ≠ g4; omega) _
theorem In2.word {w : World} {g4 N gm gw gv : Nat} {KV : List Value} {h M ws vs : List Int} {wr : World} (s : In2 w g4 N KV h gm M gw gv ws vs wr) (j : Nat) (hj : j < ws.length) : wr.cell? ⟨gw, j, none⟩ = some (.int .u32 (ws.getD j 0)) :=
  s.s.cell (by rw [List.getElem?_map, getD_some hj]; rfl)
theorem In2.vcell {w : World} {g4 N gm gw gv : Nat} {KV : List Value} {h M ws vs : List Int} {wr : World} (s : In2 w g4 N KV h gm M gw gv ws vs wr) (j : Nat) (hj : j < vs.length) : wr.cell? ⟨gv, j, none⟩ = some (.int .u32 (vs.getD j 0)) :=
  s.v.cell (by rw [List.getElem?_map, getD_some hj]; rfl)
theorem rnd_length (k x : Int) (v : List Int) (h : v.length = 8) : (rnd k x v).length = 8 := by
  obtain ⟨a, b, c, d, e, f, g, i, rfl⟩ := eight v h; rfl
theorem rndN_length (r s h : List Int) (hh : h.length = 8) : ∀ i, (rndN r s h i).length = 8
  | 0 => hh
  | i + 1 => rnd_length _ _ _ (rndN_length r s h hh i)
theorem addN_length (h v : List Int) : ∀ j, (addN h v j).length = h.length
  | 0 => rfl
  | j + 1 => by rw [addN, List.length_set, addN_length h v j]
theorem overI_all : ∀ (b c : List Int), b.length = c.length → overI b 0 c = c := by
  intro b c hl
  have h := over_mid [] (b.map (Value.int .u8)) (c.map (Value.int .u8)) [] (by simp [hl])
  have key : ∀ (vs : List Int) (o : Nat) (x : List Int), over (x.map (Value.int .u8)) o (vs.map (Value.int .u8)) = (overI x o vs).map (Value.int .u8) := by
    intro vs
    induction vs with
    | nil => intro o x; rfl
    | cons v q ih => intro o x; rw [List.map_cons, over, overI, ← ih, List.map_set]
  simp only [List.nil_append, List.append_nil, List.length_nil] at h
  rw [key] at h
  have inj : Function.Injective (List.map (Value.int .u8)) := fun x y hxy => by
    induction x generalizing y with
    | nil => cases y; rfl; cases hxy
    | cons a x ih => cases y with
      | nil => cases hxy
      | cons b y => simp at hxy; rw [hxy.1, ih y (by simpa using hxy.2)]
  exact inj h
theorem mixI_length (r h b : List Int) (hh : h.length = 8) : (mixI r h b).length = 8 := by
  unfold mixI addL; rw [List.length_zipWith, hh, rndN_length _ _ _ hh]; rfl
theorem feed1_h (r : List Int) (s : SS) (c : Int) (hh : s.h.length = 8) : (feed1 r s c).h.length = 8 := by
  unfold feed1; split
  · exact mixI_length _ _ _ hh
  · exact hh
theorem feed_h8 (p : List Int) : (feed kTab initI p).h.length = 8 := by
  have key : ∀ (p : List Int) (s : SS), s.h.length = 8 → (feed kTab s p).h.length = 8 := by
    intro p
    induction p with
    | nil => intro s h; exact h
    | cons c q ih => intro s h; exact ih _ (feed1_h _ _ _ h)
  exact key p initI rfl
/-- A whole block more. -/
theorem feed_block (Z : List Int) (A : Nat) (h64 : A % 64 = 0) (hA : A + 64 ≤ Z.length) :
    (feed kTab initI (Z.take (A + 64))).h = mixI kTab (feed kTab initI (Z.take A)).h ((Z.drop A).take 64) := by
  have hl : ((Z.drop A).take 64).length = 64 := by simp; omega
  have hn : (feed kTab initI (Z.take A)).n = A := by rw [feed_n, List.length_take]; show 0 + _ = _; omega
  rw [List.take_add, feed_append, feed_chunk _ _ _ (by intro h0; rw [h0] at hl; cases hl) (by rw [hn, hl]; omega), hn, hl, if_pos (by omega), h64, overI_all _ _ (by rw [hl, feed_b]; rfl)]

/-- The output while i words and q bytes of the next one have been written. -/
def outAt2 (h : List Int) (i q : Nat) : List Value := fill 32 (.int .u8 0) (((h.take i).flatMap bytesI ++ (bytesI (h.getD i 0)).take q).map (Value.int .u8))
theorem outAt2_zero (h : List Int) (i : Nat) : outAt2 h i 0 = outAt h i := by simp [outAt2, outAt]
theorem outAt2_four (h : List Int) (i : Nat) (hi : i < h.length) : outAt2 h i 4 = outAt h (i + 1) := by
  unfold outAt2 outAt; rw [flat_take h i hi]; rfl
theorem outAt2_len (h : List Int) (i q : Nat) (hh : h.length = 8) (hi : i < 8) (hq : q ≤ 4) : (((h.take i).flatMap bytesI ++ (bytesI (h.getD i 0)).take q).map (Value.int .u8)).length = 4 * i + q := by
  rw [List.length_map, List.length_append, flat_length, List.length_take, List.length_take]; simp [bytesI]; omega
theorem bytesI_get (x : Int) (q : Nat) (hq : q < 4) : (bytesI x).getD q 0 = x / 2 ^ (24 - 8 * q) % 256 := by
  match q, hq with
  | 0, _ => rfl
  | 1, _ => rfl
  | 2, _ => rfl
  | 3, _ => simp [bytesI]
theorem outAt2_step (h : List Int) (i q : Nat) (hh : h.length = 8) (hi : i < 8) (hq : q < 4) : (outAt2 h i q).set (4 * i + q) (.int .u8 (h.getD i 0 / 2 ^ (24 - 8 * q) % 256)) = outAt2 h i (q + 1) := by
  have hl := outAt2_len h i q hh hi (by omega)
  have hg := bytesI_get (h.getD i 0) q hq
  have hb : (bytesI (h.getD i 0)).length = 4 := rfl
  unfold outAt2
  rw [← hg]
  clear hg
  generalize bytesI (h.getD i 0) = l at *
  have := fill_set (n := 32) (z := .int .u8 0) (v := .int .u8 (l.getD q 0)) (vs := ((h.take i).flatMap bytesI ++ l.take q).map (Value.int .u8)) (by rw [hl]; omega)
  rw [hl] at this
  rw [this]
  congr 1
  have hq' : q < l.length := by omega
  have e : l.take (q + 1) = l.take q ++ [l.getD q 0] := by
    rw [List.take_succ_eq_append_getElem hq', List.getD_eq_getElem?_getD, List.getElem?_eq_getElem hq']; rfl
  rw [e, ← List.append_assoc, List.map_append (l₁ := (h.take i).flatMap bytesI ++ l.take q) (l₂ := [l.getD q 0])]
  rfl
theorem outAt2_cell (h : List Int) (i q : Nat) (hh : h.length = 8) (hi : i < 8) (hq : q < 4) : (outAt2 h i q)[4 * i + q]? = some (.int .u8 0) := by
  have hl := outAt2_len h i q hh hi (by omega)
  have := fill_next (n := 32) (z := .int .u8 0) (vs := ((h.take i).flatMap bytesI ++ (bytesI (h.getD i 0)).take q).map (Value.int .u8)) (by rw [hl]; omega)
  rw [hl] at this; exact this
end Go.Proofs.Ytigpccfglicjeaa
