/- Package simfs: a name by definition; one file's further life; names that are none. -/
import Derived.Test.YtpfbiijcmmkjlaaDoorFsW
namespace Go.Proofs.YtpfbiijcmmkjlaaDoor
open Go.RowKit Go.Maps Go.WideMaps
set_option maxRecDepth 100000

/-- Some byte is no sign of a name, among the first n. -/
theorem odd_take (s : ByteArray) (n : Nat) (h : n < s.size) (ho : (s.data.toList.take n).any (fun b => oddB (b.toNat : Int)) = false) (hx : oddB (((s.get n h).toNat : Nat) : Int) = false) :
    (s.data.toList.take (n + 1)).any (fun b => oddB (b.toNat : Int)) = false := by
  have hn : n < s.data.toList.length := by simpa using h
  rw [List.take_succ_eq_append_getElem hn, List.any_append, ho]
  simp only [List.any_cons, List.any_nil, Bool.or_false, Bool.false_or]
  exact hx
theorem odd_at (s : ByteArray) (n : Nat) (h : n < s.size) (hx : oddB (((s.get n h).toNat : Nat) : Int) = true) : oddS s = true := by
  have hn : n < s.data.toList.length := by simpa using h
  unfold oddS
  rw [List.any_eq_true]
  exact ⟨s.data.toList[n], List.getElem_mem _, hx⟩
theorem str_get (s : ByteArray) (j : Nat) (hj : j < s.size) (w : World) : (Instr.index 9 (.string s) (.int .i64 j)).run Tryd.prog w = .ok (.int .u8 (((s.get j hj).toNat : Nat) : Int)) w := by
  rw [run_index_string w _ _ _ _ Tryd.underlying9, dif_pos ⟨by omega, by omega⟩]
  rfl

section
variable {w0 w w' : World} {g : Nat} {A A' : FsA}
theorem create_bad {s : ByteArray} {room : Int} (h : Own w0 w g (newA room)) (h1 : 1 ≤ room) (h2 : room ≤ 1048576) (hs : nameB s = false) (hsz : s.size ≤ 9223372036854775807) :
    Calls Tryd.prog 19 #[.pointer (some ⟨g, 0, none⟩), .string s] w fun e w' => e = .returned (.int .i64 7) ∧ Own w0 w' g (newA room) := by
  obtain ⟨S, k1, k2, k3⟩ := h
  refine (create_any g S (newA room) s w k1 ((Inv.new room h1 h2).Num (by omega)) hsz ⟨by show (0 : Int) ≤ 0; omega, by show (0 : Int) < _; omega⟩ (by show 0 < 1000; omega) (by show 0 < 1000; omega)).mono fun e w' ⟨b, _, he, hF, hK⟩ => ?_
  rw [show createA (newA room) s b = (newA room, 7) by unfold createA; rw [hs]; rfl] at he hF
  exact ⟨he, own_next k2 k3 hF hK⟩
theorem append_bad {s : ByteArray} {room : Int} {k1 k2 : Nat} (p : List Int) (h : Own w0 w g (newA room)) (h1 : 1 ≤ room) (h2 : room ≤ 1048576) (hs : nameB s = false) (hsz : s.size ≤ 9223372036854775807) (hp : p.length ≤ 1000) :
    Calls Tryd.prog 14 #[.pointer (some ⟨g, 0, none⟩), .string s, .slice (some ⟨w.heap.size, 0, none⟩) p.length p.length] (w.alloc (.cells (p.map (Value.int .u8)).toArray 5 (k1, k2))) fun e w' => e = .returned (.int .i64 7) ∧ Own w0 w' g (newA room) := by
  obtain ⟨S, m1, m2, m3⟩ := h
  have hI := Inv.new room h1 h2
  have hB : Below w.heap.size w (w.alloc (.cells (p.map (Value.int .u8)).toArray 5 (k1, k2))) := (Below.refl _ _).alloc (Nat.le_refl _) _
  have hbn : (w.alloc (.cells (p.map (Value.int .u8)).toArray 5 (k1, k2))).heap[w.heap.size]? = some (.cells (p.map (Value.int .u8)).toArray 5 (k1, k2)) := heap_alloc_new w _
  have hb : Bytes (w.alloc (.cells (p.map (Value.int .u8)).toArray 5 (k1, k2))) (.slice (some ⟨w.heap.size, 0, none⟩) p.length p.length) p := .inr (.inr ⟨w.heap.size, 0, p.length, rfl, Nat.le_refl _, (Array.getElem?_eq_some_iff.1 hbn).1, fun j v hv => by rw [Nat.zero_add, cell_of_row _ _ j _ _ _ hbn]; simpa using hv⟩)
  refine (append_any g S (newA room) s _ p _ (m1.below hB) (hI.Num (by omega)) hI.po hI.okNow hI.short (by show 0 < 1000; omega) hI.room hsz hb (by omega) (fun x hx hS => by have hx := hx.1; cases hx; have h9 : w.heap.size < w.heap.size := (m2 _ hS).2; omega)).mono fun e w' ⟨he, hF, hK⟩ => ?_
  rw [show appendA (newA room) s p = (newA room, 7) by unfold appendA; rw [findA_bad hs]] at he hF
  exact ⟨he, own_next (fun k hk => ⟨(m2 k hk).1, Nat.lt_of_lt_of_le (m2 k hk).2 hB.size⟩) (m3.trans (hB.mono m3.size)) hF hK⟩
theorem read_bad {s : ByteArray} {room : Int} (h : Own w0 w g (newA room)) (h1 : 1 ≤ room) (h2 : room ≤ 1048576) (hs : nameB s = false) (hsz : s.size ≤ 9223372036854775807) :
    Calls Tryd.prog 24 #[.pointer (some ⟨g, 0, none⟩), .string s] w fun e w' => ∃ v, e = .returned (.tuple #[v, .int .i64 7]) ∧ Own w0 w' g (newA room) := by
  obtain ⟨S, k1, k2, k3⟩ := h
  have hI := Inv.new room h1 h2
  refine (read_any g S (newA room) s w k1 hI.named hI.short hsz).mono fun e w' ⟨v, he, hc⟩ => ?_
  rw [show readA (newA room) s = ([], 7) by unfold readA; rw [findA_bad hs]; rfl] at he
  exact ⟨v, he, Own.below ⟨S, k1, k2, k3⟩ hc.2⟩
end
end Go.Proofs.YtpfbiijcmmkjlaaDoor
