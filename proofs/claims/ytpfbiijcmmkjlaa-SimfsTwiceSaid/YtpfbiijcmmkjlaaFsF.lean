/- Package simfs: 'find', 'New', 'Create'. -/
import Derived.Test.YtpfbiijcmmkjlaaFsE
namespace Go.Proofs.Ytpfbiijcmmkjlaa
open Go.RowKit Go.Maps Go.WideMaps

theorem grow_left {S : Nat → Prop} {w w' : World} : ∀ k, S k → grow S w w' k := fun _ h => .inl h
theorem Fs.below {w w' : World} {g : Nat} {S : Nat → Prop} {A : FsA} (h : Fs w g S A) (hb : Below w.heap.size w w') : Fs w' g S A := h.to (fun _ k => k) fun k _ hk => hb.block k hk
theorem FsM.below {w w' : World} {g : Nat} {S : Nat → Prop} {A : FsA} {pv : Value} {bn bs : Nat} {sv : Value} {vs : List Value} {dv : Nat → Value} (h : FsM w g S A pv bn bs sv vs dv) (hb : Below w.heap.size w w') : FsM w' g S A pv bn bs sv vs dv :=
  h.to (fun _ k => k) fun k _ hk => hb.block k hk

def noneCode : Option Nat → Int
  | none => 3
  | some _ => 0
def findA (A : FsA) (s : ByteArray) : Option Nat × Int :=
  if nameB s = true then (dget A.now s, noneCode (dget A.now s)) else (none, 7)
set_option maxHeartbeats 2000000 in
theorem find_any (g : Nat) (S : Nat → Prop) (A : FsA) (s : ByteArray) (w : World) (h : Fs w g S A) (hs : s.size ≤ 9223372036854775807) :
    Calls Try.prog 39 #[.pointer (some ⟨g, 0, none⟩), .string s] w fun e w' => e = .returned (.tuple #[ptrOf (findA A s).1, .int .i64 (findA A s).2]) ∧ Below w.heap.size w w' := by
  obtain ⟨pv, bn, bs, sv, vs, dv, h⟩ := h
  have HM := Lib.hid h
  clear h
  have hnm := fun (W : World) => named_any W.heap.size [s] (W.alloc (.cells #[.string s] 9)) (Blk.new W 9 [.string s]) (by simp) (fun t ht => by obtain rfl := List.mem_singleton.1 ht; omega)
  have HN : Hid (∀ W : World, Calls Try.prog 41 #[.slice (some ⟨W.heap.size, 0, none⟩) 1 1] (W.alloc (.cells #[.string s] 9)) fun e w' => e = .returned (.bool (nameB s)) ∧ Below (W.alloc (.cells #[.string s] 9)).heap.size (W.alloc (.cells #[.string s] 9)) w') := fun W => by
    have := hnm W
    simpa using this
  clear hnm
  cases hnb : nameB s
  · have HR : Hid (findA A s = (none, 7)) := by show _ = _; unfold findA; rw [hnb]; rfl
    rw [hnb] at HN
    rw [HR.out]
    clear hnb
    go_enter Try.func39, Try.ntmps39
    go_wp2_with fail
    refine (HN.out _).mono ?_; rintro e w1 ⟨rfl, hb⟩
    have hB : Below w.heap.size w w1 := ((Below.refl _ w).alloc (Nat.le_refl _) _).trans (hb.mono (by simp))
    clear hb
    go_wp2_with fail
    go_ret2
    exact ⟨rfl, hB⟩
  · rw [hnb] at HN
    have hH := nameB_size hnb
    have HNB := Lib.hid hnb
    clear hnb
    obtain ⟨x, hx⟩ : ∃ x, dget A.now s = x := ⟨_, rfl⟩
    have HR : Hid (findA A s = (x, noneCode x)) := by
      show _ = _
      unfold findA
      rw [if_pos HNB.out, hx]
    rw [HR.out]
    have HXX := Lib.hid hx
    clear hx
    go_enter Try.func39, Try.ntmps39
    go_wp2_with fail
    refine (HN.out _).mono ?_; rintro e w1 ⟨rfl, hb⟩
    have hB : Below w.heap.size w w1 := ((Below.refl _ w).alloc (Nat.le_refl _) _).trans (hb.mono (by simp))
    have HM1 := Lib.hid (HM.out.below hB)
    have c6 := HM1.out.row.cell (i := 6) rfl
    have hl := (HM1.out.now.look (s := s) (by unfold maxLen; omega)).1
    rw [HXX.out] at hl
    clear hb
    cases x with
    | none =>
      have hl' : (Instr.lookup 54 (.map (some bn)) (.string s) false).run Try.prog w1 = .ok (.pointer none) w1 := hl
      clear hl
      go_wp2_with fail
      go_ret2
      exact ⟨rfl, hB⟩
    | some b =>
      have hl' : (Instr.lookup 54 (.map (some bn)) (.string s) false).run Try.prog w1 = .ok (.pointer (some ⟨b, 0, none⟩)) w1 := hl
      clear hl
      go_wp2_with fail
      go_ret2
      exact ⟨rfl, hB⟩

def newA (room : Int) : FsA := ⟨0, false, 0, [], room, 0, .map [], .map [], [], fun _ => none⟩
theorem new_world (w : World) (room : Int) : FsM (((w.alloc (.map #[] 0)).alloc (.map #[] 0)).alloc (.cells (fsRow 0 false 0 (.slice none 0 0) room 0 w.heap.size (w.heap.size + 1) (.slice none 0 0)).toArray 61)) (w.heap.size + 1 + 1)
    (newB w (((w.alloc (.map #[] 0)).alloc (.map #[] 0)).alloc (.cells (fsRow 0 false 0 (.slice none 0 0) room 0 w.heap.size (w.heap.size + 1) (.slice none 0 0)).toArray 61))) (newA room) (.slice none 0 0) w.heap.size (w.heap.size + 1) (.slice none 0 0) [] (fun _ => .slice none 0 0) ∧
    Below w.heap.size w (((w.alloc (.map #[] 0)).alloc (.map #[] 0)).alloc (.cells (fsRow 0 false 0 (.slice none 0 0) room 0 w.heap.size (w.heap.size + 1) (.slice none 0 0)).toArray 61)) := by
  have hB : Below w.heap.size w (((w.alloc (.map #[] 0)).alloc (.map #[] 0)).alloc (.cells (fsRow 0 false 0 (.slice none 0 0) room 0 w.heap.size (w.heap.size + 1) (.slice none 0 0)).toArray 61)) :=
    (((Below.refl _ w).alloc (Nat.le_refl _) _).alloc (by simp) _).alloc (by simp; omega) _
  have hrow := Blk.new ((w.alloc (.map #[] 0)).alloc (.map #[] 0)) 61 (fsRow 0 false 0 (.slice none 0 0) room 0 w.heap.size (w.heap.size + 1) (.slice none 0 0))
  rw [World.size_alloc, World.size_alloc] at hrow
  have h1 : Dir (((w.alloc (.map #[] 0)).alloc (.map #[] 0)).alloc (.cells (fsRow 0 false 0 (.slice none 0 0) room 0 w.heap.size (w.heap.size + 1) (.slice none 0 0)).toArray 61)) w.heap.size (.map []) :=
    Dir.of (((World.ownsMap_made w _ _ _).alloc _).alloc _)
  have h2 : Dir (((w.alloc (.map #[] 0)).alloc (.map #[] 0)).alloc (.cells (fsRow 0 false 0 (.slice none 0 0) room 0 w.heap.size (w.heap.size + 1) (.slice none 0 0)).toArray 61)) (w.heap.size + 1) (.map []) := by
    have := (World.ownsMap_made (w.alloc (.map #[] 0)) Try.prog 9 ptrElem).alloc (.cells (fsRow 0 false 0 (.slice none 0 0) room 0 w.heap.size (w.heap.size + 1) (.slice none 0 0)).toArray 61)
    rw [World.size_alloc] at this
    exact Dir.of this
  generalize (((w.alloc (.map #[] 0)).alloc (.map #[] 0)).alloc (.cells (fsRow 0 false 0 (.slice none 0 0) room 0 w.heap.size (w.heap.size + 1) (.slice none 0 0)).toArray 61)) = W at *
  refine ⟨?_, hB⟩
  exact {
    row := hrow
    gS := ⟨by omega, hrow.lt⟩
    plan := .inl ⟨rfl, rfl⟩
    planS := fun k hk => by cases hk
    now := h1
    nS := ⟨Nat.le_refl _, h1.lt⟩
    sure := h2
    sS := ⟨by omega, h2.lt⟩
    ne := by omega
    since := World.ownsRow_nil _ _ _ _
    sinceS := fun k hk => by cases hk
    cloL := rfl
    clo := fun i c h => by cases h
    file := fun b f h => by cases h
    apart := fun b b' _ h => by cases h }
set_option maxHeartbeats 1000000 in
theorem new_any (room : Int) (h1 : 1 ≤ room) (h2 : room ≤ 1048576) (w : World) :
    Calls Try.prog 6 #[.int .i64 room] w fun e w' => ∃ g, e = .returned (.tuple #[.pointer (some ⟨g, 0, none⟩), .int .i64 0]) ∧ w.heap.size ≤ g ∧ Fs w' g (newB w w') (newA room) ∧ Below w.heap.size w w' := by
  have hmm := @run_makeMap Try.prog
  go_enter Try.func6, Try.ntmps6
  go_wp2_with fail
  go_ret2
  exact ⟨w.heap.size + 1 + 1, rfl, by omega, ⟨_, _, _, _, _, _, (new_world w room).1⟩, (new_world w room).2⟩
set_option maxHeartbeats 1000000 in
theorem new_no (room : Int) (h : ¬ (1 ≤ room ∧ room ≤ 1048576)) (w : World) :
    Calls Try.prog 6 #[.int .i64 room] w fun e w' => e = .returned (.tuple #[.pointer none, .int .i64 1]) ∧ w = w' := by
  by_cases h1 : 1 ≤ room
  · have h2 : 1048576 < room := by omega
    clear h
    go_enter Try.func6, Try.ntmps6
    go_wp2_with fail
    go_ret2
    exact ⟨rfl, rfl⟩
  · clear h
    go_enter Try.func6, Try.ntmps6
    go_wp2_with fail
    go_ret2
    exact ⟨rfl, rfl⟩
end Go.Proofs.Ytpfbiijcmmkjlaa
