/- Package simfs: how a file system lies in memory. -/
import Derived.Test.YtpfbiijcmmkjlaaDoorFsA
import Derived.Maps.AppendAt
import Derived.Maps.Ext
namespace Go.Proofs.YtpfbiijcmmkjlaaDoor
open Go.RowKit Go.Maps Go.WideMaps

theorem wp_world {P : Program} {c : Code} {Q : Exit → Act → World → Prop} {a : Act} {W : World} (h : ∀ w', w' = W → Code.wp P c Q a w') : Code.wp P c Q a W := h W rfl
/-- All but the blocks of S is as it was; new blocks may lie behind. -/
structure Keep (S : Nat → Prop) (w w' : World) : Prop where
  os : w'.os = w.os
  tape : w'.tape = w.tape
  output : w'.output = w.output
  size : w.heap.size ≤ w'.heap.size
  block : ∀ k, k < w.heap.size → ¬ S k → w'.heap[k]? = w.heap[k]?
/-- S, and the blocks that are new. -/
def grow (S : Nat → Prop) (w w' : World) : Nat → Prop := fun k => S k ∨ (w.heap.size ≤ k ∧ k < w'.heap.size)
section
variable {S : Nat → Prop} {w w' w'' : World}
theorem Keep.refl (S : Nat → Prop) (w : World) : Keep S w w := ⟨rfl, rfl, rfl, Nat.le_refl _, fun _ _ _ => rfl⟩
theorem Keep.trans (h : Keep S w w') (k : Keep (grow S w w') w' w'') : Keep S w w'' :=
  ⟨k.os.trans h.os, k.tape.trans h.tape, k.output.trans h.output, Nat.le_trans h.size k.size, fun i hi hS =>
    (k.block i (Nat.lt_of_lt_of_le hi h.size) (fun e => e.elim hS (fun e => by omega))).trans (h.block i hi hS)⟩
theorem Keep.trans' (h : Keep S w w') (k : Keep S w' w'') : Keep S w w'' :=
  ⟨k.os.trans h.os, k.tape.trans h.tape, k.output.trans h.output, Nat.le_trans h.size k.size, fun i hi hS =>
    (k.block i (Nat.lt_of_lt_of_le hi h.size) hS).trans (h.block i hi hS)⟩
theorem Keep.mono {T : Nat → Prop} (h : Keep S w w') (hT : ∀ k, k < w.heap.size → S k → T k) : Keep T w w' :=
  ⟨h.os, h.tape, h.output, h.size, fun i hi hS => h.block i hi fun e => hS (hT i hi e)⟩
theorem Keep.of_but {g : Nat} (h : But w.heap.size g w w') (hg : S g) : Keep S w w' :=
  ⟨h.os, h.tape, h.output, h.size, fun k hk hS => h.block k hk (fun e => hS (e ▸ hg))⟩
theorem Keep.of_below (h : Below w.heap.size w w') : Keep S w w' := ⟨h.os, h.tape, h.output, h.size, fun k hk _ => h.block k hk⟩
theorem Keep.of_grown {row : Option Nat} (h : w.grownBy w' row) (hr : ∀ g, row = some g → S g) : Keep S w w' :=
  ⟨h.os, h.tape, h.output, h.size, fun k hk hS => h.block k hk (fun e => hS (hr k e.symm))⟩
theorem Keep.below (h : Keep S w w') (hS : ∀ k, S k → w.heap.size ≤ k) : Below w.heap.size w w' :=
  ⟨h.os, h.tape, h.output, h.size, fun k hk => h.block k hk fun e => by have := hS k e; omega⟩
theorem Keep.blk {t : TypeId} {cs : List Value} {k : Nat} (h : Keep S w w') (hk : ¬ S k) (b : Blk w k t cs) : Blk w' k t cs := by
  unfold Blk; rw [h.block k b.lt hk]; exact b
theorem grow_trans (S : Nat → Prop) (h1 : w.heap.size ≤ w'.heap.size) (h2 : w'.heap.size ≤ w''.heap.size) : grow (grow S w w') w' w'' = grow S w w'' := by
  funext k; apply propext; unfold grow
  constructor
  · rintro ((h | h) | h)
    · exact .inl h
    · exact .inr ⟨h.1, by omega⟩
    · exact .inr ⟨by omega, h.2⟩
  · rintro (h | h)
    · exact .inl (.inl h)
    · by_cases k < w'.heap.size
      · exact .inl (.inr ⟨h.1, by assumption⟩)
      · exact .inr ⟨by omega, h.2⟩
end

/-- How a pointer to a file reads. -/
def ptrElem (v : Value) : Option (DataW Unit × List MemPlace) :=
  match v with
  | .pointer none => some (.nil, [])
  | .pointer (some ⟨b, 0, none⟩) => some (.lit (.int .i64 b), [])
  | _ => none
def ptrOf : Option Nat → Value
  | none => .pointer none
  | some b => .pointer (some ⟨b, 0, none⟩)
def datOf : Option Nat → DataW Unit
  | none => .nil
  | some b => .lit (.int .i64 b)
theorem ptrElem_of (x : Option Nat) : ptrElem (ptrOf x) = some (datOf x, []) := by cases x <;> rfl
theorem ptrElem_inv {v : Value} {z : DataW Unit × List MemPlace} (h : ptrElem v = some z) : ∃ x, v = ptrOf x ∧ z = (datOf x, []) := by
  unfold ptrElem at h
  split at h
  · exact ⟨none, rfl, (Option.some.inj h).symm⟩
  · exact ⟨some _, rfl, (Option.some.inj h).symm⟩
  · cases h
theorem datOf_inj {x y : Option Nat} (h : datOf x = datOf y) : x = y := by
  cases x <;> cases y <;> simp [datOf] at h ⊢
  omega
/-- The key of a name. -/
def keyL (s : ByteArray) : Lit := .string s.data.toList
theorem keyL_inj {a b : ByteArray} (h : keyL a = keyL b) : a = b := by
  unfold keyL at h
  injection h with h
  apply ByteArray.ext
  exact Array.toList_inj.1 h
theorem law9 : Keyed Tryd.prog 9 := string_keyed Tryd.underlying9
theorem key9 {s : ByteArray} (h : s.size ≤ maxLen) : keyOf Tryd.prog 9 (.string s) = some (keyL s) := keyOf_string_mk Tryd.underlying9 h
theorem keyLit (s : ByteArray) : WideAt.IsKeyLit (keyL s) := trivial
theorem zeroPtr (w : World) : (zeroValue 76).run Tryd.prog w = .ok (.pointer none) w := by kernel_rfl

/-- Block b is a directory: a map from names to files. -/
def Dir (w : World) (b : Nat) (D : DataW Unit) : Prop := w.ownsMap Tryd.prog 9 ptrElem b (Maps.size D) D
theorem Dir.of {w : World} {b n : Nat} {D : DataW Unit} (h : w.ownsMap Tryd.prog 9 ptrElem b n D) : Dir w b D := by
  obtain ⟨es, clock, hb, F, hs, rfl⟩ := h
  refine ⟨es, clock, hb, F, ?_, rfl⟩
  show es.size ≤ ((es.toList.map _).foldr DataW.insert []).length
  rw [length_sorted]; simp
theorem Dir.canon {w : World} {b : Nat} {D : DataW Unit} (h : Dir w b D) : Maps.Canon D := World.ownsMap.canon h law9
theorem Dir.tidy {w : World} {b : Nat} {D : DataW Unit} (h : Dir w b D) : Maps.Tidy D := by
  obtain ⟨es, e, hp, _⟩ := h.canon
  exact ⟨es, e, apart_of_rising hp⟩
theorem Dir.lt {w : World} {b : Nat} {D : DataW Unit} (h : Dir w b D) : b < w.heap.size := World.ownsMap.lt h
theorem Dir.to {w w' : World} {b : Nat} {D : DataW Unit} (h : Dir w b D) (hb : w'.heap[b]? = w.heap[b]?) : Dir w' b D := by
  obtain ⟨es, clock, h1, h2⟩ := h
  exact ⟨es, clock, hb.trans h1, h2⟩
theorem Dir.keep {S : Nat → Prop} {w w' : World} {b : Nat} {D : DataW Unit} (h : Dir w b D) (hk : Keep S w w') (hS : ¬ S b) : Dir w' b D := h.to (hk.block b h.lt hS)
/-- Which file a name is. -/
def dget (D : DataW Unit) (s : ByteArray) : Option Nat :=
  match D.atKey (keyL s) .nil with
  | .lit (.int .i64 b) => some b.toNat
  | _ => none
theorem Dir.look {w : World} {b : Nat} {D : DataW Unit} (h : Dir w b D) {s : ByteArray} (hs : s.size ≤ maxLen) :
    (Instr.lookup 55 (.map (some b)) (.string s) false).run Tryd.prog w = .ok (ptrOf (dget D s)) w ∧ D.atKey (keyL s) .nil = datOf (dget D s) := by
  obtain ⟨v, ps, hrun, hv⟩ := h.lookup law9 Tryd.underlying55 (zeroPtr w) (ptrElem_of none) (key9 hs)
  obtain ⟨x, rfl, hx⟩ := ptrElem_inv hv
  have hd : D.atKey (keyL s) .nil = datOf x := (Prod.mk.inj hx).1
  have hg : dget D s = x := by
    unfold dget; rw [hd]; cases x <;> simp [datOf]
  exact ⟨by rw [hg]; exact hrun, by rw [hg]; exact hd⟩

/-- What becomes of a directory. -/
inductive Chg where
  | create (name : ByteArray) (b : Nat)
  | rename (a b : ByteArray)
  | remove (a : ByteArray)
def Chg.ap (D : DataW Unit) : Chg → DataW Unit
  | .create n b => D.put (keyL n) (.lit (.int .i64 b))
  | .rename a b => (D.del (keyL a)).put (keyL b) (datOf (dget D a))
  | .remove a => D.del (keyL a)
/-- A closure that does a change, as it lies in memory. -/
def Clo (w : World) (S : Nat → Prop) (v : Value) : Chg → Prop
  | .create n b => ∃ xb nb, v = .func (.func 62) #[] #[.pointer (some ⟨xb, 0, none⟩), .pointer (some ⟨nb, 0, none⟩)] ∧ Blk w xb 76 [ptrOf (some b)] ∧ Blk w nb 9 [.string n] ∧ S xb ∧ S nb ∧ n.size ≤ 20
  | .rename _ _ => False
  | .remove _ => False

set_option maxHeartbeats 1000000 in
theorem create1_any (xb nb m : Nat) (n : ByteArray) (b : Nat) (D : DataW Unit) (w : World) (hx : Blk w xb 76 [ptrOf (some b)]) (hn : Blk w nb 9 [.string n]) (hs : n.size ≤ 20) (hD : Dir w m D) (hz : Maps.size D < 1000000) :
    Calls Tryd.prog 62 #[.map (some m), .pointer (some ⟨xb, 0, none⟩), .pointer (some ⟨nb, 0, none⟩)] w fun e w' => e = .returned (.tuple #[]) ∧ Dir w' m ((Chg.create n b).ap D) ∧ w.grownBy w' (some m) := by
  have c1 := hx.cell (i := 0) rfl
  have c2 := hn.cell (i := 0) rfl
  have hk := key9 (s := n) (by unfold maxLen; omega)
  have HD := Lib.hid hD
  clear hx hn hD
  go_enter Tryd.func62, Tryd.ntmps62
  go_wp2_with (first
    | (at_mapUpdate; refine wpList_mapUpdate_own _ rfl _ _ _ 55 rfl 9 76 law9 Tryd.underlying55 _ m _ D rfl HD.out (by unfold maxLen; omega) _ _ _ rfl rfl hk _ [] (ptrElem_of (some b)) ?_; intro w1 hown1 hgrow1))
  go_end0
  exact ⟨rfl, Dir.of hown1, hgrow1⟩
end Go.Proofs.YtpfbiijcmmkjlaaDoor
