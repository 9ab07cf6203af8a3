/- Package simfs: how a file system lies in memory. -/
import Derived.Test.YtpfbiijcmmkjlaaFsA
import Derived.Maps.AppendAt
import Derived.Maps.Ext
namespace Go.Proofs.Ytpfbiijcmmkjlaa
open Go.RowKit Go.Maps Go.WideMaps

theorem wp_world {P : Program} {c : Code} {Q : Exit → Act → World → Prop} {a : Act} {W : World} (h : ∀ w', w' = W → Code.wp P c Q a w') : Code.wp P c Q a W := h W rfl
/-- All but the blocks of S is as it was; new blocks may lie behind. -/
structure Keep (S : Nat → Prop) (w w' : World) : Prop where
  os : w'.os = w.os
  tape : w'.tape = w.tape
  output : w'.output = w.output
  size : w.heap.size ≤ w'.heap.size
  block : ∀ k, k < w.heap.size → ¬ S k → w'.heap[k]? = w.heap[k]?
/-- S, and the blocks that are new. -/
def grow (S : Nat → Prop) (w w' : World) : Nat → Prop := fun k => S k ∨ (w.heap.size ≤ k ∧ k < w'.heap.size)
section
variable {S : Nat → Prop} {w w' w'' : World}
theorem Keep.refl (S : Nat → Prop) (w : World) : Keep S w w := ⟨rfl, rfl, rfl, Nat.le_refl _, fun _ _ _ => rfl⟩
theorem Keep.trans (h : Keep S w w') (k : Keep (grow S w w') w' w'') : Keep S w w'' :=
  ⟨k.os.trans h.os, k.tape.trans h.tape, k.output.trans h.output, Nat.le_trans h.size k.size, fun i hi hS =>
    (k.block i (Nat.lt_of_lt_of_le hi h.size) (fun e => e.elim hS (fun e => by omega))).trans (h.block i hi hS)⟩
theorem Keep.trans' (h : Keep S w w') (k : Keep S w' w'') : Keep S w w'' :=
  ⟨k.os.trans h.os, k.tape.trans h.tape, k.output.trans h.output, Nat.le_trans h.size k.size, fun i hi hS =>
    (k.block i (Nat.lt_of_lt_of_le hi h.size) hS).trans (h.block i hi hS)⟩
theorem Keep.mono {T : Nat → Prop} (h : Keep S w w') (hT : ∀ k, k < w.heap.size → S k → T k) : Keep T w w' :=
  ⟨h.os, h.tape, h.output, h.size, fun i hi hS => h.block i hi fun e => hS (hT i hi e)⟩
theorem Keep.of_but {g : Nat} (h : But w.heap.size g w w') (hg : S g) : Keep S w w' :=
  ⟨h.os, h.tape, h.output, h.size, fun k hk hS => h.block k hk (fun e => hS (e ▸ hg))⟩
theorem Keep.of_below (h : Below w.heap.size w w') : Keep S w w' := ⟨h.os, h.tape, h.output, h.size, fun k hk _ => h.block k hk⟩
theorem Keep.of_grown {row : Option Nat} (h : w.grownBy w' row) (hr : ∀ g, row = some g → S g) : Keep S w w' :=
  ⟨h.os, h.tape, h.output, h.size, fun k hk hS => h.block k hk (fun e => hS (hr k e.symm))⟩
theorem Keep.below (h : Keep S w w') (hS : ∀ k, S k → w.heap.size ≤ k) : Below w.heap.size w w' :=
  ⟨h.os, h.tape, h.output, h.size, fun k hk => h.block k hk fun e => by have := hS k e; omega⟩
theorem Keep.blk {t : TypeId} {cs : List Value} {k : Nat} (h : Keep S w w') (hk : ¬ S k) (b : Blk w k t cs) : Blk w' k t cs := by
  unfold Blk; rw [h.block k b.lt hk]; exact b
theorem grow_trans (S : Nat → Prop) (h1 : w.heap.size ≤ w'.heap.size) (h2 : w'.heap.size ≤ w''.heap.size) : grow (grow S w w') w' w'' = grow S w w'' := by
  funext k; apply propext; unfold grow
  constructor
  · rintro ((h | h) | h)
    · exact .inl h
    · exact .inr ⟨h.1, by omega⟩
    · exact .inr ⟨by omega, h.2⟩
  · rintro (h | h)
    · exact .inl (.inl h)
    · by_cases k < w'.heap.size
      · exact .inl (.inr ⟨h.1, by assumption⟩)
      · exact .inr ⟨by omega, h.2⟩
end

/-- How a pointer to a file reads. -/
def ptrElem (v : Value) : Option (DataW Unit × List MemPlace) :=
  match v with
  | .pointer none => some (.nil, [])
  | .pointer (some ⟨b, 0, none⟩) => some (.lit (.int .i64 b), [])
  | _ => none
def ptrOf : Option Nat → Value
  | none => .pointer none
  | some b => .pointer (some ⟨b, 0, none⟩)
def datOf : Option Nat → DataW Unit
  | none => .nil
  | some b => .lit (.int .i64 b)
theorem ptrElem_of (x : Option Nat) : ptrElem (ptrOf x) = some (datOf x, []) := by cases x <;> rfl
theorem ptrElem_inv {v : Value} {z : DataW Unit × List MemPlace} (h : ptrElem v = some z) : ∃ x, v = ptrOf x ∧ z = (datOf x, []) := by
  unfold ptrElem at h
  split at h
  · exact ⟨none, rfl, (Option.some.inj h).symm⟩
  · exact ⟨some _, rfl, (Option.some.inj h).symm⟩
  · cases h
theorem datOf_inj {x y : Option Nat} (h : datOf x = datOf y) : x = y := by
  cases x <;> cases y <;> simp [datOf] at h ⊢
  omega
/-- The key of a name. -/
def keyL (s : ByteArray) : Lit := .string s.data.toList
theorem keyL_inj {a b : ByteArray} (h : keyL a = keyL b) : a = b := by
  unfold keyL at h
  injection h with h
  apply ByteArray.ext
  exact Array.toList_inj.1 h
theorem law9 : Keyed Try.prog 9 := string_keyed Try.underlying9
theorem key9 {s : ByteArray} (h : s.size ≤ maxLen) : keyOf Try.prog 9 (.string s) = some (keyL s) := keyOf_string_mk Try.underlying9 h
theorem keyLit (s : ByteArray) : WideAt.IsKeyLit (keyL s) := trivial
theorem zeroPtr (w : World) : (zeroValue 77).run Try.prog w = .ok (.pointer none) w := by kernel_rfl

/-- Block b is a directory: a map from names to files. -/
def Dir (w : World) (b : Nat) (D : DataW Unit) : Prop := w.ownsMap Try.prog 9 ptrElem b (Maps.size D) D
theorem Dir.of {w : World} {b n : Nat} {D : DataW Unit} (h : w.ownsMap Try.prog 9 ptrElem b n D) : Dir w b D := by
  obtain ⟨es, clock, hb, F, hs, rfl⟩ := h
  refine ⟨es, clock, hb, F, ?_, rfl⟩
  show es.size ≤ ((es.toList.map _).foldr DataW.insert []).length
  rw [length_sorted]; simp
theorem Dir.canon {w : World} {b : Nat} {D : DataW Unit} (h : Dir w b D) : Maps.Canon D := World.ownsMap.canon h law9
theorem Dir.tidy {w : World} {b : Nat} {D : DataW Unit} (h : Dir w b D) : Maps.Tidy D := by
  obtain ⟨es, e, hp, _⟩ := h.canon
  exact ⟨es, e, apart_of_rising hp⟩
theorem Dir.lt {w : World} {b : Nat} {D : DataW Unit} (h : Dir w b D) : b < w.heap.size := World.ownsMap.lt h
theorem Dir.to {w w' : World} {b : Nat} {D : DataW Unit} (h : Dir w b D) (hb : w'.heap[b]? = w.heap[b]?) : Dir w' b D := by
  obtain ⟨es, clock, h1, h2⟩ := h
  exact ⟨es, clock, hb.trans h1, h2⟩
theorem Dir.keep {S : Nat → Prop} {w w' : World} {b : Nat} {D : DataW Unit} (h : Dir w b D) (hk : Keep S w w') (hS : ¬ S b) : Dir w' b D := h.to (hk.block b h.lt hS)
/-- Which file a name is. -/
def dget (D : DataW Unit) (s : ByteArray) : Option Nat :=
  match D.atKey (keyL s) .nil with
  | .lit (.int .i64 b) => some b.toNat
  | _ => none
theorem Dir.look {w : World} {b : Nat} {D : DataW Unit} (h : Dir w b D) {s : ByteArray} (hs : s.size ≤ maxLen) :
    (Instr.lookup 54 (.map (some b)) (.string s) false).run Try.prog w = .ok (ptrOf (dget D s)) w ∧ D.atKey (keyL s) .nil = datOf (dget D s) := by
  obtain ⟨v, ps, hrun, hv⟩ := h.lookup law9 Try.underlying54 (zeroPtr w) (ptrElem_of none) (key9 hs)
  obtain ⟨x, rfl, hx⟩ := ptrElem_inv hv
  have hd : D.atKey (keyL s) .nil = datOf x := (Prod.mk.inj hx).1
  have hg : dget D s = x := by
    unfold dget; rw [hd]; cases x <;> simp [datOf]
  exact ⟨by rw [hg]; exact hrun, by rw [hg]; exact hd⟩

/-- What becomes of a directory. -/
inductive Chg where
  | create (name : ByteArray) (b : Nat)
  | rename (a b : ByteArray)
  | remove (a : ByteArray)
def Chg.ap (D : DataW Unit) : Chg → DataW Unit
  | .create n b => D.put (keyL n) (.lit (.int .i64 b))
  | .rename a b => (D.del (keyL a)).put (keyL b) (datOf (dget D a))
  | .remove a => D.del (keyL a)
/-- A closure that does a change, as it lies in memory. -/
def Clo (w : World) (S : Nat → Prop) (v : Value) : Chg → Prop
  | .create n b => ∃ xb nb, v = .func (.func 66) #[] #[.pointer (some ⟨xb, 0, none⟩), .pointer (some ⟨nb, 0, none⟩)] ∧ Blk w xb 77 [ptrOf (some b)] ∧ Blk w nb 9 [.string n] ∧ S xb ∧ S nb ∧ n.size ≤ 20
  | .rename a b => ∃ xa xb, v = .func (.func 67) #[] #[.pointer (some ⟨xa, 0, none⟩), .pointer (some ⟨xb, 0, none⟩)] ∧ Blk w xa 9 [.string a] ∧ Blk w xb 9 [.string b] ∧ S xa ∧ S xb ∧ a.size ≤ 20 ∧ b.size ≤ 20
  | .remove a => ∃ xa, v = .func (.func 68) #[] #[.pointer (some ⟨xa, 0, none⟩)] ∧ Blk w xa 9 [.string a] ∧ S xa ∧ a.size ≤ 20

set_option maxHeartbeats 1000000 in
theorem create1_any (xb nb m : Nat) (n : ByteArray) (b : Nat) (D : DataW Unit) (w : World) (hx : Blk w xb 77 [ptrOf (some b)]) (hn : Blk w nb 9 [.string n]) (hs : n.size ≤ 20) (hD : Dir w m D) (hz : Maps.size D < 1000000) :
    Calls Try.prog 66 #[.map (some m), .pointer (some ⟨xb, 0, none⟩), .pointer (some ⟨nb, 0, none⟩)] w fun e w' => e = .returned (.tuple #[]) ∧ Dir w' m ((Chg.create n b).ap D) ∧ w.grownBy w' (some m) := by
  have c1 := hx.cell (i := 0) rfl
  have c2 := hn.cell (i := 0) rfl
  have hk := key9 (s := n) (by unfold maxLen; omega)
  have HD := Lib.hid hD
  clear hx hn hD
  go_enter Try.func66, Try.ntmps66
  go_wp2_with (first
    | (at_mapUpdate; refine wpList_mapUpdate_own _ rfl _ _ _ 54 rfl 9 77 law9 Try.underlying54 _ m _ D rfl HD.out (by unfold maxLen; omega) _ _ _ rfl rfl hk _ [] (ptrElem_of (some b)) ?_; intro w1 hown1 hgrow1))
  go_end0
  exact ⟨rfl, Dir.of hown1, hgrow1⟩
set_option maxHeartbeats 1000000 in
theorem remove1_any (xa m : Nat) (n : ByteArray) (D : DataW Unit) (w : World) (hx : Blk w xa 9 [.string n]) (hs : n.size ≤ 20) (hD : Dir w m D) :
    Calls Try.prog 68 #[.map (some m), .pointer (some ⟨xa, 0, none⟩)] w fun e w' => e = .returned (.tuple #[]) ∧ Dir w' m ((Chg.remove n).ap D) ∧ w.grownBy w' (some m) := by
  have c1 := hx.cell (i := 0) rfl
  have hk := key9 (s := n) (by unfold maxLen; omega)
  have HD := Lib.hid hD
  clear hx hD
  go_enter Try.func68, Try.ntmps68
  go_wp2_with (first
    | (at_delete; refine wpList_delete_own _ rfl _ _ 54 9 rfl 77 law9 Try.underlying54 _ m _ D rfl HD.out _ _ rfl hk ?_; intro w1 hown1 hturn1))
  go_end0
  exact ⟨rfl, Dir.of hown1, hturn1.grown⟩
set_option maxHeartbeats 1000000 in
theorem rename1_any (xa xb m : Nat) (a b : ByteArray) (D : DataW Unit) (w : World) (ha : Blk w xa 9 [.string a]) (hb : Blk w xb 9 [.string b]) (hsa : a.size ≤ 20) (hsb : b.size ≤ 20) (hD : Dir w m D) (hz : Maps.size D < 1000000) :
    Calls Try.prog 67 #[.map (some m), .pointer (some ⟨xa, 0, none⟩), .pointer (some ⟨xb, 0, none⟩)] w fun e w' => e = .returned (.tuple #[]) ∧ Dir w' m ((Chg.rename a b).ap D) ∧ w.grownBy w' (some m) := by
  have c1 := ha.cell (i := 0) rfl
  have c2 := hb.cell (i := 0) rfl
  have hka := key9 (s := a) (by unfold maxLen; omega)
  have hkb := key9 (s := b) (by unfold maxLen; omega)
  have hl := (hD.look (s := a) (by unfold maxLen; omega)).1
  have hnd : m ≠ xa ∧ m ≠ xb := by
    obtain ⟨es, clock, h1, _⟩ := hD
    constructor
    · rintro rfl; unfold Blk at ha; rw [h1] at ha; cases ha
    · rintro rfl; unfold Blk at hb; rw [h1] at hb; cases hb
  have HZ : Hid (Maps.size D < maxLen) := by show _ < _; unfold maxLen; omega
  have HD := Lib.hid hD
  have HB := Lib.hid hb
  clear ha hb hD
  go_enter Try.func67, Try.ntmps67
  go_wp2_with (first
    | (at_delete; refine wpList_delete_own _ rfl _ _ 54 9 rfl 77 law9 Try.underlying54 _ m _ D rfl HD.out _ _ rfl hka ?_; intro w1 hown1 hturn1; have c3 := (show Blk w1 xb 9 [.string b] by unfold Blk; rw [hturn1.grown.block xb HB.out.lt (fun e => hnd.2 (Option.some.inj e).symm)]; exact HB.out).cell (i := 0) rfl)
    | (at_mapUpdate; refine wpList_mapUpdate_own _ rfl _ _ _ 54 rfl 9 77 law9 Try.underlying54 _ m _ _ rfl hown1 HZ.out _ _ _ rfl rfl hkb _ [] (ptrElem_of (dget D a)) ?_; intro w2 hown2 hgrow2))
  go_end0
  exact ⟨rfl, Dir.of hown2, ⟨hgrow2.os.trans hturn1.grown.os, hgrow2.tape.trans hturn1.grown.tape, hgrow2.output.trans hturn1.grown.output, Nat.le_trans hturn1.grown.size hgrow2.size, fun k hk hne => (hgrow2.block k (Nat.lt_of_lt_of_le hk hturn1.grown.size) hne).trans (hturn1.grown.block k hk hne)⟩⟩
end Go.Proofs.Ytpfbiijcmmkjlaa
