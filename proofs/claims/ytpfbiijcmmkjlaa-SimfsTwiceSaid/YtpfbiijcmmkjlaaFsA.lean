/- Package simfs: the small functions, and the steps. -/
import Derived.Test.YtpfbiijcmmkjlaaMem
import Derived.Test.YtpfbiijcmmkjlaaProg
import Derived.WalkKit
import Derived.WalkSpells
import Derived.WalkLawsBesides
import Derived.Lib.Hide
import Derived.BigQuiet
import Derived.Deep.QuietTactic
import Derived.Maps.OwnSet
import Derived.Maps.OwnOps
import Derived.Maps.AppendAt
namespace Go.Proofs.Ytpfbiijcmmkjlaa
open Go.RowKit Go.Maps

theorem ret_int {k : IntKind} {a b : Int} (h : a = b) : Ending.returned (.int k a) = .returned (.int k b) := by rw [h]
theorem ret_bool {a b : Bool} (h : a = b) : Ending.returned (.bool a) = .returned (.bool b) := by rw [h]
theorem calls_world {P : Program} {f : FuncId} {args : Array Value} {W : World} {R : Ending → World → Prop} (h : ∀ w', w' = W → Calls P f args w' R) : Calls P f args W R := h W rfl

/-- The signs of names. -/
def oddB (r : Int) : Bool := !((decide (97 ≤ r) && decide (r ≤ 122)) || (decide (48 ≤ r) && decide (r ≤ 57)) || decide (r = 46) || decide (r = 45))
set_option maxHeartbeats 400000 in
theorem strange_any (r : Int) (w : World) :
    Calls Try.prog 61 #[.int .i32 r] w fun e w' => e = .returned (.bool (oddB r)) ∧ w = w' := by
  go_enter Try.func61, Try.ntmps61
  by_cases h5 : r = 46
  · subst h5
    go_wp2
    go_ret
    exact ⟨ret_bool (by decide), rfl⟩
  by_cases h6 : r = 45
  · subst h6
    go_wp2
    go_ret
    exact ⟨ret_bool (by decide), rfl⟩
  have H5 : (r == 46) = false := by simpa using h5
  have H6 : (r == 45) = false := by simpa using h6
  clear h5 h6
  by_cases h1 : 97 ≤ r <;> by_cases h2 : r ≤ 122 <;> by_cases h3 : 48 ≤ r <;> by_cases h4 : r ≤ 57 <;> first | (exfalso; omega) | skip
  all_goals
    have ho : oddB r = true ∨ oddB r = false := by cases oddB r <;> simp
    rcases ho with ho | ho
    all_goals first
      | (exfalso; revert ho; have K5 := beq_eq_false_iff_ne.1 H5; have K6 := beq_eq_false_iff_ne.1 H6; unfold oddB; simp; omega)
      | (have HO := Lib.hid ho
         clear ho
         go_wp2
         go_ret
         exact ⟨ret_bool HO.out.symm, rfl⟩)

/-- The error that a planned number makes. -/
def faultOf (k : Int) : Int := if k = 0 then 0 else if k = 2 then 21 else 20
set_option maxHeartbeats 400000 in
theorem fault_any (k : Int) (w : World) :
    Calls Try.prog 64 #[.int .i64 k] w fun e w' => e = .returned (.int .i64 (faultOf k)) ∧ w = w' := by
  go_enter Try.func64, Try.ntmps64
  by_cases h1 : k = 0
  · subst h1
    go_wp2
    go_ret
    exact ⟨rfl, rfl⟩
  · by_cases h2 : k = 2
    · subst h2
      go_wp2
      go_ret
      exact ⟨rfl, rfl⟩
    · have H1 : (k == 0) = false := by simpa using h1
      have H2 : (k == 2) = false := by simpa using h2
      go_wp2
      go_ret
      exact ⟨ret_int (by unfold faultOf; rw [if_neg h1, if_neg h2]), rfl⟩
/-- How many of n bytes are put. -/
def partOf (k n room : Int) : Int := max 0 (min (min (k - 3) n) room)
set_option maxHeartbeats 400000 in
theorem part_any (k n room : Int) (h0 : 0 ≤ k) (h1 : k ≤ 9223372036854775807) (w : World) :
    Calls Try.prog 46 #[.int .i64 k, .int .i64 n, .int .i64 room] w fun e w' => e = .returned (.int .i64 (partOf k n room)) ∧ w = w' := by
  have e1 : IntKind.i64.wrap (k - 2) = k - 2 := IntWalk.i64_in _ (by omega)
  have e2 : IntKind.i64.wrap (k - 2 - 1) = k - 2 - 1 := IntWalk.i64_in _ (by omega)
  by_cases a : n < k - 2 - 1
  · by_cases b : room < n
    all_goals
      by_cases c : 0 < room
      all_goals
        by_cases d : 0 < n
        all_goals
          go_enter Try.func46, Try.ntmps46
          go_wp2
          go_ret
          exact ⟨ret_int (by unfold partOf; omega), rfl⟩
  · by_cases b : room < k - 2 - 1
    all_goals
      by_cases c : 0 < room
      all_goals
        by_cases d : 0 < k - 2 - 1
        all_goals
          go_enter Try.func46, Try.ntmps46
          go_wp2
          go_ret
          exact ⟨ret_int (by unfold partOf; omega), rfl⟩
def withinOf (n all : Int) : Int := min (max n 0) all
set_option maxHeartbeats 400000 in
theorem within_any (n all : Int) (w : World) :
    Calls Try.prog 34 #[.int .i64 n, .int .i64 all] w fun e w' => e = .returned (.int .i64 (withinOf n all)) ∧ w = w' := by
  by_cases a : n < 0
  · by_cases b : all < 0
    all_goals
      go_enter Try.func34, Try.ntmps34
      go_wp2
      go_ret
      exact ⟨ret_int (by unfold withinOf; omega), rfl⟩
  · by_cases b : all < n
    all_goals
      go_enter Try.func34, Try.ntmps34
      go_wp2
      go_ret
      exact ⟨ret_int (by unfold withinOf; omega), rfl⟩

/-- The cells of a file system. -/
def fsRow (c : Int) (ar : Bool) (l : Int) (pv : Value) (room cr : Int) (bn bs : Nat) (sv : Value) : List Value :=
  [.int .i64 c, .bool ar, .int .i64 l, pv, .int .i64 room, .int .i64 cr, .map (some bn), .map (some bs), sv]
def deadB (ar : Bool) (l : Int) : Bool := ar && decide (l = 0)
set_option maxHeartbeats 400000 in
theorem dead_any (g : Nat) (c : Int) (ar : Bool) (l : Int) (rest : List Value) (w : World) (hg : Blk w g 61 (.int .i64 c :: .bool ar :: .int .i64 l :: rest)) :
    Calls Try.prog 55 #[.pointer (some ⟨g, 0, none⟩)] w fun e w' => e = .returned (.bool (deadB ar l)) ∧ w = w' := by
  have c1 := hg.cell (i := 1) rfl
  have c2 := hg.cell (i := 2) rfl
  clear hg
  go_enter Try.func55, Try.ntmps55
  cases ar
  · go_wp2
    go_ret
    exact ⟨rfl, rfl⟩
  · by_cases h : l = 0
    · subst h
      go_wp2
      go_ret
      exact ⟨rfl, rfl⟩
    · have H : (l == 0) = false := by simpa using h
      go_wp2
      go_ret
      exact ⟨ret_bool (by simp [deadB, h]), rfl⟩
set_option maxHeartbeats 1000000 in
theorem begin_any (g : Nat) (c : Int) (ar : Bool) (l : Int) (rest : List Value) (w : World) (hg : Blk w g 61 (.int .i64 c :: .bool ar :: .int .i64 l :: rest))
    (hc : 0 ≤ c ∧ c < 4611686018427387904) (hl : 0 ≤ l ∧ l ≤ 9223372036854775807) :
    Calls Try.prog 62 #[.pointer (some ⟨g, 0, none⟩)] w fun e w' => e = .returned (.bool (!deadB ar l)) ∧ But w.heap.size g w w' ∧
      Blk w' g 61 (if deadB ar l = true then .int .i64 c :: .bool ar :: .int .i64 l :: rest else .int .i64 (c + 1) :: .bool ar :: .int .i64 (if ar = true then l - 1 else l) :: rest) := by
  have hd := dead_any g c ar l rest w hg
  have c0 := hg.cell (i := 0) rfl
  have c1 := hg.cell (i := 1) rfl
  have c2 := hg.cell (i := 2) rfl
  have f0 := hg.frozen 0
  have f2 := hg.frozen 2
  have e1 : IntKind.i64.wrap (c + 1) = c + 1 := IntWalk.i64_in _ (by omega)
  have hs0 := hg.set 0 (.int .i64 (c + 1))
  have hs2 := hs0.set 2 (.int .i64 (l - 1))
  have HG := Lib.hid hg
  have HS0 := Lib.hid hs0
  have HS2 := Lib.hid hs2
  clear hg hs0 hs2
  cases hdb : deadB ar l
  · have hl0 : ar = true → 0 < l := by intro h; unfold deadB at hdb; subst h; simp at hdb; omega
    rw [hdb] at hd
    have HD := Lib.hid hdb
    clear hdb
    have hd2 : ¬ (false = true) := by simp
    rw [if_neg hd2]
    clear hd2
    cases ar
    · go_enter Try.func62, Try.ntmps62
      go_wp2_with (go_at_call 55; refine hd.mono ?_; rintro e w' ⟨rfl, rfl⟩)
      go_ret
      exact ⟨rfl, (But.refl _ g _).setCell (p := ⟨g, 0, none⟩) (.inr rfl) _, HS0.out⟩
    · have e2 : IntKind.i64.wrap (l - 1) = l - 1 := IntWalk.i64_in _ (by have := hl0 rfl; omega)
      go_enter Try.func62, Try.ntmps62
      go_wp2_with (go_at_call 55; refine hd.mono ?_; rintro e w' ⟨rfl, rfl⟩)
      go_ret
      exact ⟨rfl, ((But.refl _ g _).setCell (p := ⟨g, 0, none⟩) (.inr rfl) _).setCell (p := ⟨g, 2, none⟩) (.inr rfl) _, HS2.out⟩
  · rw [hdb] at hd
    clear hdb
    rw [if_pos rfl]
    go_enter Try.func62, Try.ntmps62
    go_wp2_with (go_at_call 55; refine hd.mono ?_; rintro e w' ⟨rfl, rfl⟩)
    go_ret
    exact ⟨rfl, But.refl _ _ _, HG.out⟩

/-- The value v is a slice of these numbers, in a block of numbers. -/
def PlanAt (w : World) (v : Value) (p : List Int) : Prop :=
  (v = .slice none 0 0 ∧ p = []) ∨ ∃ pb po cap cur, v = .slice (some ⟨pb, po, none⟩) p.length cap ∧ p.length ≤ cap ∧ w.heap[pb]? = some (.cells cur 3 (0, 0)) ∧ ∀ (j : Nat) x, p[j]? = some x → cur[po + j]? = some (.int .i64 x)
theorem PlanAt.slice {w : World} {v : Value} {p : List Int} (h : PlanAt w v p) : ∃ a c, v = .slice a p.length c := by
  rcases h with ⟨rfl, rfl⟩ | ⟨pb, po, cap, cur, rfl, _⟩
  · exact ⟨_, _, rfl⟩
  · exact ⟨_, _, rfl⟩
theorem PlanAt.to {w w' : World} {v : Value} {p : List Int} (h : PlanAt w v p) (hs : ∀ k cur, w.heap[k]? = some (.cells cur 3 (0, 0)) → v.ownBlock = some k → w'.heap[k]? = w.heap[k]?) : PlanAt w' v p := by
  rcases h with h | ⟨pb, po, cap, cur, rfl, h1, h2, h3⟩
  · exact .inl h
  · exact .inr ⟨pb, po, cap, cur, rfl, h1, (hs pb cur h2 rfl).trans h2, h3⟩
def howOf (p : List Int) : Int := if p.headD 0 < 0 then 1 else p.headD 0
/-- The plan behind a step: in the same block. -/
def Rest (w' : World) (g : Nat) (a b c pv : Value) (rest : List Value) (p : List Int) : Prop :=
  ∃ pv', Blk w' g 61 (a :: b :: c :: pv' :: rest) ∧ PlanAt w' pv' p ∧ pv'.ownBlock = pv.ownBlock
theorem rest_step {w : World} {g : Nat} {a b c : Value} {rest : List Value} {x : Int} {p : List Int} {pb po cap po' cap' : Nat} {cur : Array Value} (hg : Blk w g 61 (a :: b :: c :: .slice (some ⟨pb, po, none⟩) (x :: p).length cap :: rest))
    (hcap : p.length ≤ cap') (hne : pb ≠ g) (h2 : w.heap[pb]? = some (.cells cur 3 (0, 0))) (hr : ∀ (j : Nat) y, (x :: p)[j]? = some y → cur[po + j]? = some (.int .i64 y)) (ho : p = [] ∨ po' = po + 1) :
    Rest (w.setCell ⟨g, 3, none⟩ (.slice (some ⟨pb, po', none⟩) p.length cap')) g a b c (.slice (some ⟨pb, po, none⟩) (x :: p).length cap) rest p := by
  refine ⟨_, hg.set 3 _, .inr ⟨pb, po', cap', cur, rfl, hcap, ?_, ?_⟩, rfl⟩
  · rw [heap_setCell_other w ⟨g, 3, none⟩ pb _ hne]; exact h2
  · rcases ho with rfl | rfl
    · intro j v hv; simp at hv
    · intro j v hv
      rw [show po + 1 + j = po + (j + 1) by omega]
      exact hr (j + 1) v (by simpa using hv)
set_option maxHeartbeats 1000000 in
theorem next_any (g : Nat) (a b c pv : Value) (rest : List Value) (p : List Int) (w : World) (hg : Blk w g 61 (a :: b :: c :: pv :: rest)) (hp : PlanAt w pv p) (hm : p.length < 9223372036854775807) :
    Calls Try.prog 63 #[.pointer (some ⟨g, 3, none⟩)] w fun e w' => e = .returned (.int .i64 (howOf p)) ∧ But w.heap.size g w w' ∧ Rest w' g a b c pv rest p.tail := by
  have c3 := hg.cell (i := 3) rfl
  have f3 := hg.frozen 3
  rcases p with _ | ⟨x, p⟩
  · obtain ⟨pa, pc, rfl⟩ := hp.slice
    have HG := Lib.hid hg
    have HP := Lib.hid hp
    clear hg hp
    go_enter Try.func63, Try.ntmps63
    go_wp2
    go_ret
    exact ⟨rfl, But.refl _ _ _, _, HG.out, HP.out, rfl⟩
  · rcases hp with ⟨_, h⟩ | ⟨pb, po, cap, cur, rfl, hcap, h2, hr⟩
    · cases h
    · have hne : pb ≠ g := by rintro rfl; unfold Blk at hg; rw [h2] at hg; cases hg
      have hx : w.cell? ⟨pb, po, none⟩ = some (.int .i64 x) := by rw [cell_of_row w pb po cur 3 (0, 0) h2]; simpa using hr 0 x rfl
      have hcap' : p.length + 1 ≤ cap := by simpa using hcap
      have hx0 : w.cell? ⟨pb, po + 0, none⟩ = some (.int .i64 x) := hx
      have HW : Hid (x < 0 → howOf (x :: p) = 1) := fun h => by unfold howOf; rw [if_pos (by simpa using h)]
      have HW2 : Hid (¬ x < 0 → howOf (x :: p) = x) := fun h => by unfold howOf; rw [if_neg (by simpa using h)]; rfl
      simp only [List.length_cons] at hm
      by_cases h1 : cap = 1
      · obtain rfl : p = [] := List.length_eq_zero_iff.1 (by omega)
        subst h1
        have HE := Lib.hid (rest_step (po' := po) (cap' := 0) hg (by simp) hne h2 hr (.inl rfl))
        clear hr hg hcap h2
        go_enter Try.func63, Try.ntmps63
        by_cases hneg : x < 0
        · go_wp2
          go_ret
          exact ⟨ret_int (HW.out hneg).symm, (But.refl _ g _).setCell (p := ⟨g, 3, none⟩) (.inr rfl) _, HE.out⟩
        · go_wp2
          go_ret
          exact ⟨ret_int (HW2.out hneg).symm, (But.refl _ g _).setCell (p := ⟨g, 3, none⟩) (.inr rfl) _, HE.out⟩
      · have HE := Lib.hid (rest_step (po' := po + 1) (cap' := cap - 1) hg (by omega) hne h2 hr (.inr rfl))
        clear hr hg hcap h2
        go_enter Try.func63, Try.ntmps63
        by_cases hneg : x < 0
        · go_wp2
          go_ret
          exact ⟨ret_int (HW.out hneg).symm, (But.refl _ g _).setCell (p := ⟨g, 3, none⟩) (.inr rfl) _, HE.out⟩
        · go_wp2
          go_ret
          exact ⟨ret_int (HW2.out hneg).symm, (But.refl _ g _).setCell (p := ⟨g, 3, none⟩) (.inr rfl) _, HE.out⟩
end Go.Proofs.Ytpfbiijcmmkjlaa
