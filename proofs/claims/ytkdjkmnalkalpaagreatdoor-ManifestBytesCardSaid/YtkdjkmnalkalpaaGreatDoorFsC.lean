/- Package simfs: the small functions, and the steps. Package simfs: how a file system lies in memory. Package simfs: a file system in memory, and what of it a step turns. -/
import Derived.Test.YtkdjkmnalkalpaaGreatDoorQuiet
import Derived.Test.YtkdjkmnalkalpaaGreatDoorProg
import Derived.WalkKit
import Derived.WalkSpells
import Derived.WalkLawsBesides
import Derived.Lib.Hide
import Derived.BigQuiet
import Derived.Deep.QuietTactic
import Derived.Maps.OwnSet
import Derived.Maps.OwnOps
import Derived.Maps.AppendAt
import Derived.Maps.Ext
namespace Go.Proofs.YtkdjkmnalkalpaaGreatDoor
open Go.RowKit Go.Maps
set_option maxRecDepth 100000

theorem ret_int {k : IntKind} {a b : Int} (h : a = b) : Ending.returned (.int k a) = .returned (.int k b) := by rw [h]
theorem ret_bool {a b : Bool} (h : a = b) : Ending.returned (.bool a) = .returned (.bool b) := by rw [h]
theorem calls_world {P : Program} {f : FuncId} {args : Array Value} {W : World} {R : Ending → World → Prop} (h : ∀ w', w' = W → Calls P f args w' R) : Calls P f args W R := h W rfl

def oddB (r : Int) : Bool := !((decide (97 ≤ r) && decide (r ≤ 122)) || (decide (48 ≤ r) && decide (r ≤ 57)) || decide (r = 46) || decide (r = 45))
set_option maxHeartbeats 400000 in
theorem strange_any (r : Int) (w : World) :
    Calls Tryz.prog 160 #[.int .i32 r] w fun e w' => e = .returned (.bool (oddB r)) ∧ w = w' := by
  go_enter Tryz.func160, Tryz.ntmps160
  by_cases h5 : r = 46
  · subst h5
    go_wp2
    go_ret
    exact ⟨ret_bool (by decide), rfl⟩
  by_cases h6 : r = 45
  · subst h6
    go_wp2
    go_ret
    exact ⟨ret_bool (by decide), rfl⟩
  have H5 : (r == 46) = false := by simpa using h5
  have H6 : (r == 45) = false := by simpa using h6
  clear h5 h6
  by_cases h1 : 97 ≤ r <;> by_cases h2 : r ≤ 122 <;> by_cases h3 : 48 ≤ r <;> by_cases h4 : r ≤ 57 <;> first | (exfalso; omega) | skip
  all_goals
    have ho : oddB r = true ∨ oddB r = false := by cases oddB r <;> simp
    rcases ho with ho | ho
    all_goals first
      | (exfalso; revert ho; have K5 := beq_eq_false_iff_ne.1 H5; have K6 := beq_eq_false_iff_ne.1 H6; unfold oddB; simp; omega)
      | (have HO := Lib.hid ho
         clear ho
         go_wp2
         go_ret
         exact ⟨ret_bool HO.out.symm, rfl⟩)

def faultOf (k : Int) : Int := if k = 0 then 0 else if k = 2 then 21 else 20
set_option maxHeartbeats 400000 in
theorem fault_any (k : Int) (w : World) :
    Calls Tryz.prog 163 #[.int .i64 k] w fun e w' => e = .returned (.int .i64 (faultOf k)) ∧ w = w' := by
  go_enter Tryz.func163, Tryz.ntmps163
  by_cases h1 : k = 0
  · subst h1
    go_wp2
    go_ret
    exact ⟨rfl, rfl⟩
  · by_cases h2 : k = 2
    · subst h2
      go_wp2
      go_ret
      exact ⟨rfl, rfl⟩
    · have H1 : (k == 0) = false := by simpa using h1
      have H2 : (k == 2) = false := by simpa using h2
      go_wp2
      go_ret
      exact ⟨ret_int (by unfold faultOf; rw [if_neg h1, if_neg h2]), rfl⟩
def partOf (k n room : Int) : Int := max 0 (min (min (k - 3) n) room)
set_option maxHeartbeats 400000 in
theorem part_any (k n room : Int) (h0 : 0 ≤ k) (h1 : k ≤ 9223372036854775807) (w : World) :
    Calls Tryz.prog 103 #[.int .i64 k, .int .i64 n, .int .i64 room] w fun e w' => e = .returned (.int .i64 (partOf k n room)) ∧ w = w' := by
  have e1 : IntKind.i64.wrap (k - 2) = k - 2 := IntWalk.i64_in _ (by omega)
  have e2 : IntKind.i64.wrap (k - 2 - 1) = k - 2 - 1 := IntWalk.i64_in _ (by omega)
  by_cases a : n < k - 2 - 1
  · by_cases b : room < n
    all_goals
      by_cases c : 0 < room
      all_goals
        by_cases d : 0 < n
        all_goals
          go_enter Tryz.func103, Tryz.ntmps103
          go_wp2
          go_ret
          exact ⟨ret_int (by unfold partOf; omega), rfl⟩
  · by_cases b : room < k - 2 - 1
    all_goals
      by_cases c : 0 < room
      all_goals
        by_cases d : 0 < k - 2 - 1
        all_goals
          go_enter Tryz.func103, Tryz.ntmps103
          go_wp2
          go_ret
          exact ⟨ret_int (by unfold partOf; omega), rfl⟩
def fsRow (c : Int) (ar : Bool) (l : Int) (pv : Value) (room cr : Int) (bn bs : Nat) (sv : Value) : List Value :=
  [.int .i64 c, .bool ar, .int .i64 l, pv, .int .i64 room, .int .i64 cr, .map (some bn), .map (some bs), sv]
def deadB (ar : Bool) (l : Int) : Bool := ar && decide (l = 0)
set_option maxHeartbeats 400000 in
theorem dead_any (g : Nat) (c : Int) (ar : Bool) (l : Int) (rest : List Value) (w : World) (hg : Blk w g 105 (.int .i64 c :: .bool ar :: .int .i64 l :: rest)) :
    Calls Tryz.prog 125 #[.pointer (some ⟨g, 0, none⟩)] w fun e w' => e = .returned (.bool (deadB ar l)) ∧ w = w' := by
  have c1 := hg.cell (i := 1) rfl
  have c2 := hg.cell (i := 2) rfl
  clear hg
  go_enter Tryz.func125, Tryz.ntmps125
  cases ar
  · go_wp2
    go_ret
    exact ⟨rfl, rfl⟩
  · by_cases h : l = 0
    · subst h
      go_wp2
      go_ret
      exact ⟨rfl, rfl⟩
    · have H : (l == 0) = false := by simpa using h
      go_wp2
      go_ret
      exact ⟨ret_bool (by simp [deadB, h]), rfl⟩
set_option maxHeartbeats 1000000 in
theorem begin_any (g : Nat) (c : Int) (ar : Bool) (l : Int) (rest : List Value) (w : World) (hg : Blk w g 105 (.int .i64 c :: .bool ar :: .int .i64 l :: rest))
    (hc : 0 ≤ c ∧ c < 4611686018427387904) (hl : 0 ≤ l ∧ l ≤ 9223372036854775807) :
    Calls Tryz.prog 161 #[.pointer (some ⟨g, 0, none⟩)] w fun e w' => e = .returned (.bool (!deadB ar l)) ∧ But w.heap.size g w w' ∧
      Blk w' g 105 (if deadB ar l = true then .int .i64 c :: .bool ar :: .int .i64 l :: rest else .int .i64 (c + 1) :: .bool ar :: .int .i64 (if ar = true then l - 1 else l) :: rest) := by
  have hd := dead_any g c ar l rest w hg
  have c0 := hg.cell (i := 0) rfl
  have c1 := hg.cell (i := 1) rfl
  have c2 := hg.cell (i := 2) rfl
  have f0 := hg.frozen 0
  have f2 := hg.frozen 2
  have e1 : IntKind.i64.wrap (c + 1) = c + 1 := IntWalk.i64_in _ (by omega)
  have hs0 := hg.set 0 (.int .i64 (c + 1))
  have hs2 := hs0.set 2 (.int .i64 (l - 1))
  have HG := Lib.hid hg
  have HS0 := Lib.hid hs0
  have HS2 := Lib.hid hs2
  clear hg hs0 hs2
  cases hdb : deadB ar l
  · have hl0 : ar = true → 0 < l := by intro h; unfold deadB at hdb; subst h; simp at hdb; omega
    rw [hdb] at hd
    have HD := Lib.hid hdb
    clear hdb
    have hd2 : ¬ (false = true) := by simp
    rw [if_neg hd2]
    clear hd2
    cases ar
    · go_enter Tryz.func161, Tryz.ntmps161
      go_wp2_with (go_at_call 125; refine hd.mono ?_; rintro e w' ⟨rfl, rfl⟩)
      go_ret
      exact ⟨rfl, (But.refl _ g _).setCell (p := ⟨g, 0, none⟩) (.inr rfl) _, HS0.out⟩
    · have e2 : IntKind.i64.wrap (l - 1) = l - 1 := IntWalk.i64_in _ (by have := hl0 rfl; omega)
      go_enter Tryz.func161, Tryz.ntmps161
      go_wp2_with (go_at_call 125; refine hd.mono ?_; rintro e w' ⟨rfl, rfl⟩)
      go_ret
      exact ⟨rfl, ((But.refl _ g _).setCell (p := ⟨g, 0, none⟩) (.inr rfl) _).setCell (p := ⟨g, 2, none⟩) (.inr rfl) _, HS2.out⟩
  · rw [hdb] at hd
    clear hdb
    rw [if_pos rfl]
    go_enter Tryz.func161, Tryz.ntmps161
    go_wp2_with (go_at_call 125; refine hd.mono ?_; rintro e w' ⟨rfl, rfl⟩)
    go_ret
    exact ⟨rfl, But.refl _ _ _, HG.out⟩

def PlanAt (w : World) (v : Value) (p : List Int) : Prop :=
  (v = .slice none 0 0 ∧ p = []) ∨ ∃ pb po cap cur, v = .slice (some ⟨pb, po, none⟩) p.length cap ∧ p.length ≤ cap ∧ w.heap[pb]? = some (.cells cur 3 (0, 0)) ∧ ∀ (j : Nat) x, p[j]? = some x → cur[po + j]? = some (.int .i64 x)
theorem PlanAt.slice {w : World} {v : Value} {p : List Int} (h : PlanAt w v p) : ∃ a c, v = .slice a p.length c := by
  rcases h with ⟨rfl, rfl⟩ | ⟨pb, po, cap, cur, rfl, _⟩
  · exact ⟨_, _, rfl⟩
  · exact ⟨_, _, rfl⟩
theorem PlanAt.to {w w' : World} {v : Value} {p : List Int} (h : PlanAt w v p) (hs : ∀ k cur, w.heap[k]? = some (.cells cur 3 (0, 0)) → v.ownBlock = some k → w'.heap[k]? = w.heap[k]?) : PlanAt w' v p := by
  rcases h with h | ⟨pb, po, cap, cur, rfl, h1, h2, h3⟩
  · exact .inl h
  · exact .inr ⟨pb, po, cap, cur, rfl, h1, (hs pb cur h2 rfl).trans h2, h3⟩
def howOf (p : List Int) : Int := if p.headD 0 < 0 then 1 else p.headD 0
def Rest (w' : World) (g : Nat) (a b c pv : Value) (rest : List Value) (p : List Int) : Prop :=
  ∃ pv', Blk w' g 105 (a :: b :: c :: pv' :: rest) ∧ PlanAt w' pv' p ∧ pv'.ownBlock = pv.ownBlock
theorem rest_step {w : World} {g : Nat} {a b c : Value} {rest : List Value} {x : Int} {p : List Int} {pb po cap po' cap' : Nat} {cur : Array Value} (hg : Blk w g 105 (a :: b :: c :: .slice (some ⟨pb, po, none⟩) (x :: p).length cap :: rest))
    (hcap : p.length ≤ cap') (hne : pb ≠ g) (h2 : w.heap[pb]? = some (.cells cur 3 (0, 0))) (hr : ∀ (j : Nat) y, (x :: p)[j]? = some y → cur[po + j]? = some (.int .i64 y)) (ho : p = [] ∨ po' = po + 1) :
    Rest (w.setCell ⟨g, 3, none⟩ (.slice (some ⟨pb, po', none⟩) p.length cap')) g a b c (.slice (some ⟨pb, po, none⟩) (x :: p).length cap) rest p := by
  refine ⟨_, hg.set 3 _, .inr ⟨pb, po', cap', cur, rfl, hcap, ?_, ?_⟩, rfl⟩
  · rw [heap_setCell_other w ⟨g, 3, none⟩ pb _ hne]; exact h2
  · rcases ho with rfl | rfl
    · intro j v hv; simp at hv
    · intro j v hv
      rw [show po + 1 + j = po + (j + 1) by omega]
      exact hr (j + 1) v (by simpa using hv)
set_option maxHeartbeats 1000000 in
theorem next_any (g : Nat) (a b c pv : Value) (rest : List Value) (p : List Int) (w : World) (hg : Blk w g 105 (a :: b :: c :: pv :: rest)) (hp : PlanAt w pv p) (hm : p.length < 9223372036854775807) :
    Calls Tryz.prog 162 #[.pointer (some ⟨g, 3, none⟩)] w fun e w' => e = .returned (.int .i64 (howOf p)) ∧ But w.heap.size g w w' ∧ Rest w' g a b c pv rest p.tail := by
  have c3 := hg.cell (i := 3) rfl
  have f3 := hg.frozen 3
  rcases p with _ | ⟨x, p⟩
  · obtain ⟨pa, pc, rfl⟩ := hp.slice
    have HG := Lib.hid hg
    have HP := Lib.hid hp
    clear hg hp
    go_enter Tryz.func162, Tryz.ntmps162
    go_wp2
    go_ret
    exact ⟨rfl, But.refl _ _ _, _, HG.out, HP.out, rfl⟩
  · rcases hp with ⟨_, h⟩ | ⟨pb, po, cap, cur, rfl, hcap, h2, hr⟩
    · cases h
    · have hne : pb ≠ g := by rintro rfl; unfold Blk at hg; rw [h2] at hg; cases hg
      have hx : w.cell? ⟨pb, po, none⟩ = some (.int .i64 x) := by rw [cell_of_row w pb po cur 3 (0, 0) h2]; simpa using hr 0 x rfl
      have hcap' : p.length + 1 ≤ cap := by simpa using hcap
      have hx0 : w.cell? ⟨pb, po + 0, none⟩ = some (.int .i64 x) := hx
      have HW : Hid (x < 0 → howOf (x :: p) = 1) := fun h => by unfold howOf; rw [if_pos (by simpa using h)]
      have HW2 : Hid (¬ x < 0 → howOf (x :: p) = x) := fun h => by unfold howOf; rw [if_neg (by simpa using h)]; rfl
      simp only [List.length_cons] at hm
      by_cases h1 : cap = 1
      · obtain rfl : p = [] := List.length_eq_zero_iff.1 (by omega)
        subst h1
        have HE := Lib.hid (rest_step (po' := po) (cap' := 0) hg (by simp) hne h2 hr (.inl rfl))
        clear hr hg hcap h2
        go_enter Tryz.func162, Tryz.ntmps162
        by_cases hneg : x < 0
        · go_wp2
          go_ret
          exact ⟨ret_int (HW.out hneg).symm, (But.refl _ g _).setCell (p := ⟨g, 3, none⟩) (.inr rfl) _, HE.out⟩
        · go_wp2
          go_ret
          exact ⟨ret_int (HW2.out hneg).symm, (But.refl _ g _).setCell (p := ⟨g, 3, none⟩) (.inr rfl) _, HE.out⟩
      · have HE := Lib.hid (rest_step (po' := po + 1) (cap' := cap - 1) hg (by omega) hne h2 hr (.inr rfl))
        clear hr hg hcap h2
        go_enter Tryz.func162, Tryz.ntmps162
        by_cases hneg : x < 0
        · go_wp2
          go_ret
          exact ⟨ret_int (HW.out hneg).symm, (But.refl _ g _).setCell (p := ⟨g, 3, none⟩) (.inr rfl) _, HE.out⟩
        · go_wp2
          go_ret
          exact ⟨ret_int (HW2.out hneg).symm, (But.refl _ g _).setCell (p := ⟨g, 3, none⟩) (.inr rfl) _, HE.out⟩
end Go.Proofs.YtkdjkmnalkalpaaGreatDoor
namespace Go.Proofs.YtkdjkmnalkalpaaGreatDoor
open Go.RowKit Go.Maps Go.WideMaps
set_option maxRecDepth 100000

theorem wp_world {P : Program} {c : Code} {Q : Exit → Act → World → Prop} {a : Act} {W : World} (h : ∀ w', w' = W → Code.wp P c Q a w') : Code.wp P c Q a W := h W rfl
structure Keep (S : Nat → Prop) (w w' : World) : Prop where
  os : w'.os = w.os
  tape : w'.tape = w.tape
  output : w'.output = w.output
  size : w.heap.size ≤ w'.heap.size
  block : ∀ k, k < w.heap.size → ¬ S k → w'.heap[k]? = w.heap[k]?
def grow (S : Nat → Prop) (w w' : World) : Nat → Prop := fun k => S k ∨ (w.heap.size ≤ k ∧ k < w'.heap.size)
section
variable {S : Nat → Prop} {w w' w'' : World}
theorem Keep.refl (S : Nat → Prop) (w : World) : Keep S w w := ⟨rfl, rfl, rfl, Nat.le_refl _, fun _ _ _ => rfl⟩
theorem Keep.trans (h : Keep S w w') (k : Keep (grow S w w') w' w'') : Keep S w w'' :=
  ⟨k.os.trans h.os, k.tape.trans h.tape, k.output.trans h.output, Nat.le_trans h.size k.size, fun i hi hS =>
    (k.block i (Nat.lt_of_lt_of_le hi h.size) (fun e => e.elim hS (fun e => by omega))).trans (h.block i hi hS)⟩
theorem Keep.trans' (h : Keep S w w') (k : Keep S w' w'') : Keep S w w'' :=
  ⟨k.os.trans h.os, k.tape.trans h.tape, k.output.trans h.output, Nat.le_trans h.size k.size, fun i hi hS =>
    (k.block i (Nat.lt_of_lt_of_le hi h.size) hS).trans (h.block i hi hS)⟩
theorem Keep.mono {T : Nat → Prop} (h : Keep S w w') (hT : ∀ k, k < w.heap.size → S k → T k) : Keep T w w' :=
  ⟨h.os, h.tape, h.output, h.size, fun i hi hS => h.block i hi fun e => hS (hT i hi e)⟩
theorem Keep.of_but {g : Nat} (h : But w.heap.size g w w') (hg : S g) : Keep S w w' :=
  ⟨h.os, h.tape, h.output, h.size, fun k hk hS => h.block k hk (fun e => hS (e ▸ hg))⟩
theorem Keep.of_below (h : Below w.heap.size w w') : Keep S w w' := ⟨h.os, h.tape, h.output, h.size, fun k hk _ => h.block k hk⟩
theorem Keep.of_grown {row : Option Nat} (h : w.grownBy w' row) (hr : ∀ g, row = some g → S g) : Keep S w w' :=
  ⟨h.os, h.tape, h.output, h.size, fun k hk hS => h.block k hk (fun e => hS (hr k e.symm))⟩
theorem grow_trans (S : Nat → Prop) (h1 : w.heap.size ≤ w'.heap.size) (h2 : w'.heap.size ≤ w''.heap.size) : grow (grow S w w') w' w'' = grow S w w'' := by
  funext k; apply propext; unfold grow
  constructor
  · rintro ((h | h) | h)
    · exact .inl h
    · exact .inr ⟨h.1, by omega⟩
    · exact .inr ⟨by omega, h.2⟩
  · rintro (h | h)
    · exact .inl (.inl h)
    · by_cases k < w'.heap.size
      · exact .inl (.inr ⟨h.1, by assumption⟩)
      · exact .inr ⟨by omega, h.2⟩
end

def ptrElem (v : Value) : Option (DataW Unit × List MemPlace) :=
  match v with
  | .pointer none => some (.nil, [])
  | .pointer (some ⟨b, 0, none⟩) => some (.lit (.int .i64 b), [])
  | _ => none
def ptrOf : Option Nat → Value
  | none => .pointer none
  | some b => .pointer (some ⟨b, 0, none⟩)
def datOf : Option Nat → DataW Unit
  | none => .nil
  | some b => .lit (.int .i64 b)
theorem ptrElem_of (x : Option Nat) : ptrElem (ptrOf x) = some (datOf x, []) := by cases x <;> rfl
theorem ptrElem_inv {v : Value} {z : DataW Unit × List MemPlace} (h : ptrElem v = some z) : ∃ x, v = ptrOf x ∧ z = (datOf x, []) := by
  unfold ptrElem at h
  split at h
  · exact ⟨none, rfl, (Option.some.inj h).symm⟩
  · exact ⟨some _, rfl, (Option.some.inj h).symm⟩
  · cases h
theorem datOf_inj {x y : Option Nat} (h : datOf x = datOf y) : x = y := by
  cases x <;> cases y <;> simp [datOf] at h ⊢
  omega
def keyL (s : ByteArray) : Lit := .string s.data.toList
theorem keyL_inj {a b : ByteArray} (h : keyL a = keyL b) : a = b := by
  unfold keyL at h
  injection h with h
  apply ByteArray.ext
  exact Array.toList_inj.1 h
theorem law9 : Keyed Tryz.prog 9 := string_keyed Tryz.underlying9
theorem key9 {s : ByteArray} (h : s.size ≤ maxLen) : keyOf Tryz.prog 9 (.string s) = some (keyL s) := keyOf_string_mk Tryz.underlying9 h
theorem keyLit (s : ByteArray) : WideAt.IsKeyLit (keyL s) := trivial
theorem zeroPtr (w : World) : (zeroValue 173).run Tryz.prog w = .ok (.pointer none) w := by kernel_rfl

def Dir (w : World) (b : Nat) (D : DataW Unit) : Prop := w.ownsMap Tryz.prog 9 ptrElem b (Maps.size D) D
theorem Dir.of {w : World} {b n : Nat} {D : DataW Unit} (h : w.ownsMap Tryz.prog 9 ptrElem b n D) : Dir w b D := by
  obtain ⟨es, clock, hb, F, hs, rfl⟩ := h
  refine ⟨es, clock, hb, F, ?_, rfl⟩
  show es.size ≤ ((es.toList.map _).foldr DataW.insert []).length
  rw [length_sorted]; simp
theorem Dir.canon {w : World} {b : Nat} {D : DataW Unit} (h : Dir w b D) : Maps.Canon D := World.ownsMap.canon h law9
theorem Dir.lt {w : World} {b : Nat} {D : DataW Unit} (h : Dir w b D) : b < w.heap.size := World.ownsMap.lt h
theorem Dir.to {w w' : World} {b : Nat} {D : DataW Unit} (h : Dir w b D) (hb : w'.heap[b]? = w.heap[b]?) : Dir w' b D := by
  obtain ⟨es, clock, h1, h2⟩ := h
  exact ⟨es, clock, hb.trans h1, h2⟩
def dget (D : DataW Unit) (s : ByteArray) : Option Nat :=
  match D.atKey (keyL s) .nil with
  | .lit (.int .i64 b) => some b.toNat
  | _ => none
theorem Dir.look {w : World} {b : Nat} {D : DataW Unit} (h : Dir w b D) {s : ByteArray} (hs : s.size ≤ maxLen) :
    (Instr.lookup 102 (.map (some b)) (.string s) false).run Tryz.prog w = .ok (ptrOf (dget D s)) w ∧ D.atKey (keyL s) .nil = datOf (dget D s) := by
  obtain ⟨v, ps, hrun, hv⟩ := h.lookup law9 Tryz.underlying102 (zeroPtr w) (ptrElem_of none) (key9 hs)
  obtain ⟨x, rfl, hx⟩ := ptrElem_inv hv
  have hd : D.atKey (keyL s) .nil = datOf x := (Prod.mk.inj hx).1
  have hg : dget D s = x := by
    unfold dget; rw [hd]; cases x <;> simp [datOf]
  exact ⟨by rw [hg]; exact hrun, by rw [hg]; exact hd⟩

inductive Chg where
  | create (name : ByteArray) (b : Nat)
  | rename (a b : ByteArray)
  | remove (a : ByteArray)
def Chg.ap (D : DataW Unit) : Chg → DataW Unit
  | .create n b => D.put (keyL n) (.lit (.int .i64 b))
  | .rename a b => (D.del (keyL a)).put (keyL b) (datOf (dget D a))
  | .remove a => D.del (keyL a)
def Clo (w : World) (S : Nat → Prop) (v : Value) : Chg → Prop
  | .create n b => ∃ xb nb, v = .func (.func 165) #[] #[.pointer (some ⟨xb, 0, none⟩), .pointer (some ⟨nb, 0, none⟩)] ∧ Blk w xb 173 [ptrOf (some b)] ∧ Blk w nb 9 [.string n] ∧ S xb ∧ S nb ∧ n.size ≤ 20
  | .rename a b => ∃ xa xb, v = .func (.func 188) #[] #[.pointer (some ⟨xa, 0, none⟩), .pointer (some ⟨xb, 0, none⟩)] ∧ Blk w xa 9 [.string a] ∧ Blk w xb 9 [.string b] ∧ S xa ∧ S xb ∧ a.size ≤ 20 ∧ b.size ≤ 20
  | .remove a => ∃ xa, v = .func (.func 189) #[] #[.pointer (some ⟨xa, 0, none⟩)] ∧ Blk w xa 9 [.string a] ∧ S xa ∧ a.size ≤ 20

set_option maxHeartbeats 1000000 in
theorem create1_any (xb nb m : Nat) (n : ByteArray) (b : Nat) (D : DataW Unit) (w : World) (hx : Blk w xb 173 [ptrOf (some b)]) (hn : Blk w nb 9 [.string n]) (hs : n.size ≤ 20) (hD : Dir w m D) (hz : Maps.size D < 1000000) :
    Calls Tryz.prog 165 #[.map (some m), .pointer (some ⟨xb, 0, none⟩), .pointer (some ⟨nb, 0, none⟩)] w fun e w' => e = .returned (.tuple #[]) ∧ Dir w' m ((Chg.create n b).ap D) ∧ w.grownBy w' (some m) := by
  have c1 := hx.cell (i := 0) rfl
  have c2 := hn.cell (i := 0) rfl
  have hk := key9 (s := n) (by unfold maxLen; omega)
  have HD := Lib.hid hD
  clear hx hn hD
  go_enter Tryz.func165, Tryz.ntmps165
  go_wp2_with (first
    | (at_mapUpdate; refine wpList_mapUpdate_own _ rfl _ _ _ 102 rfl 9 173 law9 Tryz.underlying102 _ m _ D rfl HD.out (by unfold maxLen; omega) _ _ _ rfl rfl hk _ [] (ptrElem_of (some b)) ?_; intro w1 hown1 hgrow1))
  go_end0
  exact ⟨rfl, Dir.of hown1, hgrow1⟩
set_option maxHeartbeats 1000000 in
theorem remove1_any (xa m : Nat) (n : ByteArray) (D : DataW Unit) (w : World) (hx : Blk w xa 9 [.string n]) (hs : n.size ≤ 20) (hD : Dir w m D) :
    Calls Tryz.prog 189 #[.map (some m), .pointer (some ⟨xa, 0, none⟩)] w fun e w' => e = .returned (.tuple #[]) ∧ Dir w' m ((Chg.remove n).ap D) ∧ w.grownBy w' (some m) := by
  have c1 := hx.cell (i := 0) rfl
  have hk := key9 (s := n) (by unfold maxLen; omega)
  have HD := Lib.hid hD
  clear hx hD
  go_enter Tryz.func189, Tryz.ntmps189
  go_wp2_with (first
    | (at_delete; refine wpList_delete_own _ rfl _ _ 102 9 rfl 173 law9 Tryz.underlying102 _ m _ D rfl HD.out _ _ rfl hk ?_; intro w1 hown1 hturn1))
  go_end0
  exact ⟨rfl, Dir.of hown1, hturn1.grown⟩
set_option maxHeartbeats 1000000 in
theorem rename1_any (xa xb m : Nat) (a b : ByteArray) (D : DataW Unit) (w : World) (ha : Blk w xa 9 [.string a]) (hb : Blk w xb 9 [.string b]) (hsa : a.size ≤ 20) (hsb : b.size ≤ 20) (hD : Dir w m D) (hz : Maps.size D < 1000000) :
    Calls Tryz.prog 188 #[.map (some m), .pointer (some ⟨xa, 0, none⟩), .pointer (some ⟨xb, 0, none⟩)] w fun e w' => e = .returned (.tuple #[]) ∧ Dir w' m ((Chg.rename a b).ap D) ∧ w.grownBy w' (some m) := by
  have c1 := ha.cell (i := 0) rfl
  have c2 := hb.cell (i := 0) rfl
  have hka := key9 (s := a) (by unfold maxLen; omega)
  have hkb := key9 (s := b) (by unfold maxLen; omega)
  have hl := (hD.look (s := a) (by unfold maxLen; omega)).1
  have hnd : m ≠ xa ∧ m ≠ xb := by
    obtain ⟨es, clock, h1, _⟩ := hD
    constructor
    · rintro rfl; unfold Blk at ha; rw [h1] at ha; cases ha
    · rintro rfl; unfold Blk at hb; rw [h1] at hb; cases hb
  have HZ : Hid (Maps.size D < maxLen) := by show _ < _; unfold maxLen; omega
  have HD := Lib.hid hD
  have HB := Lib.hid hb
  clear ha hb hD
  go_enter Tryz.func188, Tryz.ntmps188
  go_wp2_with (first
    | (at_delete; refine wpList_delete_own _ rfl _ _ 102 9 rfl 173 law9 Tryz.underlying102 _ m _ D rfl HD.out _ _ rfl hka ?_; intro w1 hown1 hturn1; have c3 := (show Blk w1 xb 9 [.string b] by unfold Blk; rw [hturn1.grown.block xb HB.out.lt (fun e => hnd.2 (Option.some.inj e).symm)]; exact HB.out).cell (i := 0) rfl)
    | (at_mapUpdate; refine wpList_mapUpdate_own _ rfl _ _ _ 102 rfl 9 173 law9 Tryz.underlying102 _ m _ _ rfl hown1 HZ.out _ _ _ rfl rfl hkb _ [] (ptrElem_of (dget D a)) ?_; intro w2 hown2 hgrow2))
  go_end0
  exact ⟨rfl, Dir.of hown2, ⟨hgrow2.os.trans hturn1.grown.os, hgrow2.tape.trans hturn1.grown.tape, hgrow2.output.trans hturn1.grown.output, Nat.le_trans hturn1.grown.size hgrow2.size, fun k hk hne => (hgrow2.block k (Nat.lt_of_lt_of_le hk hturn1.grown.size) hne).trans (hturn1.grown.block k hk hne)⟩⟩
end Go.Proofs.YtkdjkmnalkalpaaGreatDoor
namespace Go.Proofs.YtkdjkmnalkalpaaGreatDoor
open Go.RowKit Go.Maps Go.WideMaps
set_option maxRecDepth 100000

structure Fil where
  num : Int
  data : List Int
  sure : Nat
structure FsA where
  count : Int
  armed : Bool
  left : Int
  plan : List Int
  room : Int
  created : Int
  now : DataW Unit
  sure : DataW Unit
  since : List Chg
  file : Nat → Option Fil

def OwnD (w : World) (v : Value) (ys : List Int) : Prop := w.ownsRow 0 5 1 v ys.length (ys.map (Value.int .u8))
theorem ownsRow_to {w w' : World} {base : Nat} {e size : Nat} {v : Value} {n : Nat} {xs : List Value} (h : w.ownsRow base e size v n xs)
    (hs : ∀ k cur, w.heap[k]? = some (.cells cur e (0, 0)) → v.ownBlock = some k → w'.heap[k]? = w.heap[k]?) : w'.ownsRow base e size v n xs := by
  refine ⟨h.1, ?_⟩
  rcases h.2 with h | ⟨g, cap, cur, rfl, h1, h2, h3⟩
  · exact .inl h
  · exact .inr ⟨g, cap, cur, rfl, h1, (hs g cur h2 rfl).trans h2, h3⟩
def FileAt (w : World) (b : Nat) (d : Value) (f : Fil) : Prop :=
  Blk w b 180 [.int .i64 f.num, d, .int .i64 f.sure] ∧ OwnD w d f.data

structure FsM (w : World) (g : Nat) (S : Nat → Prop) (A : FsA) (pv : Value) (bn bs : Nat) (sv : Value) (vs : List Value) (dv : Nat → Value) : Prop where
  row : Blk w g 105 (fsRow A.count A.armed A.left pv A.room A.created bn bs sv)
  gS : S g
  plan : PlanAt w pv A.plan
  planS : ∀ k, pv.ownBlock = some k → S k
  now : Dir w bn A.now
  nS : S bn
  sure : Dir w bs A.sure
  sS : S bs
  ne : bn ≠ bs
  since : w.ownsRow 0 177 1 sv vs.length vs
  sinceS : ∀ k, sv.ownBlock = some k → S k
  cloL : vs.length = A.since.length
  clo : ∀ (i : Nat) (c : Chg), A.since[i]? = some c → ∃ v, vs[i]? = some v ∧ Clo w S v c
  file : ∀ b f, A.file b = some f → FileAt w b (dv b) f ∧ S b ∧ ∀ k, (dv b).ownBlock = some k → S k
  apart : ∀ b b', b ≠ b' → (A.file b).isSome = true → (A.file b').isSome = true → ∀ k, (dv b).ownBlock = some k → (dv b').ownBlock ≠ some k
def Fs (w : World) (g : Nat) (S : Nat → Prop) (A : FsA) : Prop := ∃ pv bn bs sv vs dv, FsM w g S A pv bn bs sv vs dv

section
variable {w w' : World} {g : Nat} {S T : Nat → Prop} {A : FsA} {pv : Value} {bn bs : Nat} {sv : Value} {vs : List Value} {dv : Nat → Value}
theorem Blk.of {t : TypeId} {cs : List Value} {k : Nat} (h : w'.heap[k]? = w.heap[k]?) (b : Blk w k t cs) : Blk w' k t cs := h.trans b
theorem Clo.to {v : Value} {c : Chg} (h : Clo w S v c) (hT : ∀ k, S k → T k)
    (hs : ∀ k cs, (Blk w k 9 cs ∨ Blk w k 173 cs) → S k → w'.heap[k]? = w.heap[k]?) : Clo w' T v c := by
  cases c with
  | create n b => obtain ⟨xb, nb, h1, h2, h3, h4, h5, h6⟩ := h; exact ⟨xb, nb, h1, Blk.of (hs _ _ (.inr h2) h4) h2, Blk.of (hs _ _ (.inl h3) h5) h3, hT _ h4, hT _ h5, h6⟩
  | rename a b => obtain ⟨xb, nb, h1, h2, h3, h4, h5, h6, h7⟩ := h; exact ⟨xb, nb, h1, Blk.of (hs _ _ (.inl h2) h4) h2, Blk.of (hs _ _ (.inl h3) h5) h3, hT _ h4, hT _ h5, h6, h7⟩
  | remove a => obtain ⟨xb, h1, h2, h4, h6⟩ := h; exact ⟨xb, h1, Blk.of (hs _ _ (.inl h2) h4) h2, hT _ h4, h6⟩
theorem FileAt.to {b : Nat} {d : Value} {f : Fil} (h : FileAt w b d f) (h1 : w'.heap[b]? = w.heap[b]?)
    (hs : ∀ k cur, w.heap[k]? = some (.cells cur 5 (0, 0)) → d.ownBlock = some k → w'.heap[k]? = w.heap[k]?) : FileAt w' b d f :=
  ⟨Blk.of h1 h.1, ownsRow_to h.2 hs⟩
theorem FsM.to (h : FsM w g S A pv bn bs sv vs dv) (hT : ∀ k, S k → T k) (hs : ∀ k, S k → k < w.heap.size → w'.heap[k]? = w.heap[k]?) : FsM w' g T A pv bn bs sv vs dv := by
  have lt : ∀ {k : Nat} {o : Obj}, w.heap[k]? = some o → k < w.heap.size := fun {k o} e => by
    by_cases c : k < w.heap.size
    · exact c
    · rw [Array.getElem?_eq_none (by omega)] at e; cases e
  exact {
    row := Blk.of (hs _ h.gS h.row.lt) h.row
    gS := hT _ h.gS
    plan := h.plan.to fun k cur e o => hs k (h.planS k o) (lt e)
    planS := fun k o => hT _ (h.planS k o)
    now := h.now.to (hs _ h.nS h.now.lt)
    nS := hT _ h.nS
    sure := h.sure.to (hs _ h.sS h.sure.lt)
    sS := hT _ h.sS
    ne := h.ne
    since := ownsRow_to h.since fun k cur e o => hs k (h.sinceS k o) (lt e)
    sinceS := fun k o => hT _ (h.sinceS k o)
    cloL := h.cloL
    clo := fun i c e => by
      obtain ⟨v, h1, h2⟩ := h.clo i c e
      exact ⟨v, h1, h2.to hT fun k cs hk hS => hs k hS (hk.elim Blk.lt Blk.lt)⟩
    file := fun b f e => by
      obtain ⟨h1, h2, h3⟩ := h.file b f e
      exact ⟨h1.to (hs b h2 h1.1.lt) fun k cur e o => hs k (h3 k o) (lt e), hT _ h2, fun k o => hT _ (h3 k o)⟩
    apart := h.apart }
theorem Fs.to (h : Fs w g S A) (hT : ∀ k, S k → T k) (hs : ∀ k, S k → k < w.heap.size → w'.heap[k]? = w.heap[k]?) : Fs w' g T A := by
  obtain ⟨pv, bn, bs, sv, vs, dv, h⟩ := h
  exact ⟨pv, bn, bs, sv, vs, dv, h.to hT hs⟩
theorem kind_ne {k x : Nat} {o o' : Obj} (h : w.heap[k]? = some o) (h' : w.heap[x]? = some o') (hne : o ≠ o') : k ≠ x := by
  rintro rfl; rw [h] at h'; exact hne (Option.some.inj h')
theorem FsM.head (h : FsM w g S A pv bn bs sv vs dv) (hb : But w.heap.size g w w') (c : Int) (ar : Bool) (l cr : Int) (p : List Int) (pv' : Value)
    (hr : Blk w' g 105 (fsRow c ar l pv' A.room cr bn bs sv)) (hp : PlanAt w' pv' p) (hpS : ∀ k, pv'.ownBlock = some k → S k) :
    FsM w' g S { A with count := c, armed := ar, left := l, plan := p, created := cr } pv' bn bs sv vs dv := by
  have hs : ∀ {k : Nat} {o : Obj}, w.heap[k]? = some o → k ≠ g → w'.heap[k]? = w.heap[k]? := fun {k o} e hne =>
    hb.block k (by
      by_cases c : k < w.heap.size
      · exact c
      · rw [Array.getElem?_eq_none (by omega)] at e; cases e) hne
  have hrow := h.row
  have hn := h.now
  have hsu := h.sure
  refine { row := hr, gS := h.gS, plan := hp, planS := hpS, now := h.now.to ?_, nS := h.nS, sure := h.sure.to ?_, sS := h.sS, ne := h.ne, since := ownsRow_to h.since ?_, sinceS := h.sinceS, cloL := h.cloL, clo := ?_, file := ?_, apart := h.apart }
  · obtain ⟨es, cl, e, _⟩ := hn
    exact hs e (kind_ne e hrow (by intro e; cases e))
  · obtain ⟨es, cl, e, _⟩ := hsu
    exact hs e (kind_ne e hrow (by intro e; cases e))
  · exact fun k cur e _ => hs e (kind_ne e hrow (by intro e; cases e))
  · intro i c e
    obtain ⟨v, h1, h2⟩ := h.clo i c e
    refine ⟨v, h1, h2.to (fun _ k => k) fun k cs hk _ => ?_⟩
    rcases hk with hk | hk
    · exact hs hk (kind_ne hk hrow (by intro e; cases e))
    · exact hs hk (kind_ne hk hrow (by intro e; cases e))
  · intro b f e
    obtain ⟨h1, h2, h3⟩ := h.file b f e
    exact ⟨h1.to (hs h1.1 (kind_ne h1.1 hrow (fun e => by injection e with _ e2 _; exact absurd e2 (by decide)))) fun k cur e _ => hs e (kind_ne e hrow (by intro e; cases e)), h2, h3⟩
end

def stepA (A : FsA) : FsA × Int × Int :=
  if deadB A.armed A.left = true then (A, 0, 22)
  else ({ A with count := A.count + 1, left := if A.armed = true then A.left - 1 else A.left, plan := A.plan.tail }, howOf A.plan, faultOf (howOf A.plan))
structure Num (A : FsA) : Prop where
  c : 0 ≤ A.count ∧ A.count < 4611686018427387904
  l : 0 ≤ A.left ∧ A.left ≤ 9223372036854775807
  p : A.plan.length < 9223372036854775807

set_option maxHeartbeats 2000000 in
theorem step_any (g : Nat) (S : Nat → Prop) (A : FsA) (w : World) (h : Fs w g S A) (hn : Num A) :
    Calls Tryz.prog 98 #[.pointer (some ⟨g, 0, none⟩)] w fun e w' => e = .returned (.tuple #[.int .i64 (stepA A).2.1, .int .i64 (stepA A).2.2]) ∧ Fs w' g S (stepA A).1 ∧ But w.heap.size g w w' := by
  obtain ⟨pv, bn, bs, sv, vs, dv, h⟩ := h
  have hbg := begin_any g A.count A.armed A.left [pv, .int .i64 A.room, .int .i64 A.created, .map (some bn), .map (some bs), sv] w h.row hn.c hn.l
  have hplan := h.plan
  have hplanS := h.planS
  have HM := Lib.hid h
  have hpl := hn.p
  clear h
  cases hd : deadB A.armed A.left
  · have HS : Hid (stepA A = ({ A with count := A.count + 1, left := if A.armed = true then A.left - 1 else A.left, plan := A.plan.tail }, howOf A.plan, faultOf (howOf A.plan))) := by
      show _ = _
      unfold stepA; rw [hd]; rfl
    rw [hd] at hbg
    have hff : ¬ (false = true) := by simp
    rw [if_neg hff] at hbg
    clear hd hff
    rw [HS.out]
    have HBG := Lib.hid hbg
    clear hbg
    have hc0 := hn.c
    have hl0 := hn.l
    generalize hcc : A.count + 1 = c1 at *
    generalize hll : (if A.armed = true then A.left - 1 else A.left) = l1 at *
    clear hcc hll
    go_enter Tryz.func98, Tryz.ntmps98
    go_wp2_with fail
    refine HBG.out.mono ?_; rintro e w1 ⟨rfl, hb1, hr1⟩
    have hpl1 : PlanAt w1 pv A.plan := hplan.to fun k cur e _ => by
      have hk : k < w.heap.size := by
        by_cases c : k < w.heap.size
        · exact c
        · rw [Array.getElem?_eq_none (by omega)] at e; cases e
      exact hb1.block k hk (kind_ne e HM.out.row (by intro e; cases e))
    have hnx := next_any g (.int .i64 c1) (.bool A.armed) (.int .i64 l1) pv [.int .i64 A.room, .int .i64 A.created, .map (some bn), .map (some bs), sv] A.plan w1 hr1 hpl1 hpl
    have HB1 := Lib.hid hb1
    clear hr1 hpl1 hb1
    go_wp2_with fail
    refine hnx.mono ?_; rintro e w2 ⟨rfl, hb2, pv', hr2, hp2, ho2⟩
    have hB := HB1.out.trans (hb2.mono HB1.out.size)
    have HF := Lib.hid (HM.out.head hB c1 A.armed l1 A.created A.plan.tail pv' hr2 hp2 (fun k hk => hplanS k (by rw [← ho2]; exact hk)))
    have HBB := Lib.hid hB
    clear hnx hr2 hp2 ho2 hb2 hB
    go_wp2_with (go_at_call 163; refine (fault_any _ _).mono ?_; rintro e w' ⟨rfl, rfl⟩)
    go_ret2
    exact ⟨rfl, ⟨_, _, _, _, _, _, HF.out⟩, HBB.out⟩
  · have HS : Hid (stepA A = (A, 0, 22)) := by
      show _ = _
      unfold stepA; rw [if_pos hd]
    rw [hd] at hbg
    rw [if_pos rfl] at hbg
    rw [HS.out]
    have HBG := Lib.hid hbg
    clear hbg hd
    go_enter Tryz.func98, Tryz.ntmps98
    go_wp2_with fail
    refine HBG.out.mono ?_; rintro e w1 ⟨rfl, hb1, hr1⟩
    have hpl1 : PlanAt w1 pv A.plan := hplan.to fun k cur e _ => by
      have hk : k < w.heap.size := by
        by_cases c : k < w.heap.size
        · exact c
        · rw [Array.getElem?_eq_none (by omega)] at e; cases e
      exact hb1.block k hk (kind_ne e HM.out.row (by intro e; cases e))
    have HF := Lib.hid (HM.out.head hb1 A.count A.armed A.left A.created A.plan pv hr1 hpl1 hplanS)
    have HB1 := Lib.hid hb1
    clear hr1 hpl1 hb1
    go_wp2_with fail
    go_ret2
    exact ⟨rfl, ⟨_, _, _, _, _, _, HF.out⟩, HB1.out⟩
end Go.Proofs.YtkdjkmnalkalpaaGreatDoor
