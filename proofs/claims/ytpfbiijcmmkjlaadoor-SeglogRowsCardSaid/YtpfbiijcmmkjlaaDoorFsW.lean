/- Package simfs: the laws' fixed fact. -/
import Derived.Test.YtpfbiijcmmkjlaaDoorFsV
import Derived.Laws.BytesArg
import Derived.Lib.SlBytesConst
namespace Go.Proofs.YtpfbiijcmmkjlaaDoor
open Go.RowKit Go.Maps Go.WideMaps
set_option maxRecDepth 100000

/-- A file system that was made since w0, in blocks of its own. -/
def Own (w0 w : World) (g : Nat) (A : FsA) : Prop := ∃ S : Nat → Prop, Fs w g S A ∧ (∀ k, S k → w0.heap.size ≤ k ∧ k < w.heap.size) ∧ Below w0.heap.size w0 w
section
variable {w0 w w' : World} {g : Nat} {A A' : FsA}
theorem Own.base (h : Own w0 w g A) : Below w0.heap.size w0 w := h.choose_spec.2.2
theorem Own.below (h : Own w0 w g A) (hb : Below w.heap.size w w') : Own w0 w' g A := by
  obtain ⟨S, h1, h2, h3⟩ := h
  exact ⟨S, h1.below hb, fun k hk => ⟨(h2 k hk).1, Nat.lt_of_lt_of_le (h2 k hk).2 hb.size⟩, h3.trans (hb.mono h3.size)⟩
theorem own_next {S : Nat → Prop} (h2 : ∀ k, S k → w0.heap.size ≤ k ∧ k < w.heap.size) (h3 : Below w0.heap.size w0 w) (hF : Fs w' g (grow S w w') A') (hK : Keep S w w') : Own w0 w' g A' :=
  ⟨_, hF, fun k hk => hk.elim (fun h => ⟨(h2 k h).1, Nat.lt_of_lt_of_le (h2 k h).2 hK.size⟩) (fun h => ⟨Nat.le_trans h3.size h.1, h.2⟩),
    ⟨hK.os.trans h3.os, hK.tape.trans h3.tape, hK.output.trans h3.output, Nat.le_trans h3.size hK.size, fun k hk => (hK.block k (Nat.lt_of_lt_of_le hk h3.size) (fun hS => by have := (h2 k hS).1; omega)).trans (h3.block k hk)⟩⟩
theorem own_same {S : Nat → Prop} (h2 : ∀ k, S k → w0.heap.size ≤ k ∧ k < w.heap.size) (h3 : Below w0.heap.size w0 w) (hF : Fs w' g S A') (hK : Keep S w w') : Own w0 w' g A' :=
  own_next h2 h3 (hF.to grow_left fun _ _ _ => rfl) hK
theorem new_own (room : Int) (h1 : 1 ≤ room) (h2 : room ≤ 1048576) (w0 w : World) (h : Below w0.heap.size w0 w) :
    Calls Tryd.prog 10 #[.int .i64 room] w fun e w' => ∃ g, e = .returned (.tuple #[.pointer (some ⟨g, 0, none⟩), .int .i64 0]) ∧ Own w0 w' g (newA room) :=
  (new_any room h1 h2 w).mono fun _e w' ⟨g, he, _, hF, hB⟩ => ⟨g, he, newB w w', hF, fun _k hk => ⟨Nat.le_trans h.size hk.1, hk.2⟩, h.trans (hB.mono h.size)⟩
theorem create1_own {s : ByteArray} {room : Int} (h : Own w0 w g (newA room)) (h1 : 1 ≤ room) (h2 : room ≤ 1048576) (hs : nameB s = true) :
    Calls Tryd.prog 19 #[.pointer (some ⟨g, 0, none⟩), .string s] w fun e w' => ∃ b A', e = .returned (.int .i64 0) ∧ Own w0 w' g A' ∧ One A' s b ⟨0, [], 0⟩ room 3 ∧ A'.sure = .map [] ∧ A'.since = [.create s b] := by
  obtain ⟨S, k1, k2, k3⟩ := h
  exact (create1_one g S s room w k1 h1 h2 hs).mono fun e w' ⟨b, A', he, hF, hO, e1, e2, hK⟩ => ⟨b, A', he, own_next k2 k3 hF hK, hO, e1, e2⟩
/-- 'Append' of bytes that were laid just before. -/
theorem append_own_new {s : ByteArray} {b : Nat} {f : Fil} {room : Int} {n : Nat} {k1 k2 : Nat} (p : List Int) (h : Own w0 w g A) (hO : One A s b f room n) (hn : n < 900) (hl : f.data.length + p.length ≤ 65536) (hr : (f.data.length : Int) + p.length ≤ room) :
    Calls Tryd.prog 14 #[.pointer (some ⟨g, 0, none⟩), .string s, .slice (some ⟨w.heap.size, 0, none⟩) p.length p.length] (w.alloc (.cells (p.map (Value.int .u8)).toArray 5 (k1, k2))) fun e w' => ∃ A', e = .returned (.int .i64 0) ∧ Own w0 w' g A' ∧ One A' s b { f with data := f.data ++ p } room (n + 1) ∧ A'.sure = A.sure ∧ A'.since = A.since := by
  obtain ⟨S, h1, h2, h3⟩ := h
  have hB : Below w.heap.size w (w.alloc (.cells (p.map (Value.int .u8)).toArray 5 (k1, k2))) := (Below.refl _ _).alloc (Nat.le_refl _) _
  have hbn : (w.alloc (.cells (p.map (Value.int .u8)).toArray 5 (k1, k2))).heap[w.heap.size]? = some (.cells (p.map (Value.int .u8)).toArray 5 (k1, k2)) := heap_alloc_new w _
  have hp : Bytes (w.alloc (.cells (p.map (Value.int .u8)).toArray 5 (k1, k2))) (.slice (some ⟨w.heap.size, 0, none⟩) p.length p.length) p := .inr (.inr ⟨w.heap.size, 0, p.length, rfl, Nat.le_refl _, (Array.getElem?_eq_some_iff.1 hbn).1, fun j v hv => by rw [Nat.zero_add, cell_of_row _ _ j _ _ _ hbn]; simpa using hv⟩)
  refine (append_one g S A s b f room n _ p _ (h1.below hB) hO hn hp (fun x hx hS => by cases hx; have h9 : w.heap.size < w.heap.size := (h2 _ hS).2; omega) hl hr).mono fun e w' ⟨A', he, hF, hO', e1, e2, hK⟩ => ⟨A', he, ?_, hO', e1, e2⟩
  exact own_next (fun k hk => ⟨(h2 k hk).1, Nat.lt_of_lt_of_le (h2 k hk).2 hB.size⟩) (h3.trans (hB.mono h3.size)) hF hK
theorem sync_own {s : ByteArray} {b : Nat} {f : Fil} {room : Int} {n : Nat} (h : Own w0 w g A) (hO : One A s b f room n) (hn : n < 900) :
    Calls Tryd.prog 22 #[.pointer (some ⟨g, 0, none⟩), .string s] w fun e w' => ∃ A', e = .returned (.int .i64 0) ∧ Own w0 w' g A' ∧ One A' s b { f with sure := f.data.length } room (n + 1) ∧ A'.sure = A.sure ∧ A'.since = A.since := by
  obtain ⟨S, k1, k2, k3⟩ := h
  exact (sync_one g S A s b f room n w k1 hO hn).mono fun e w' ⟨A', he, hF, hO', e1, e2, hK⟩ => ⟨A', he, own_same k2 k3 hF hK, hO', e1, e2⟩
theorem read_own {s : ByteArray} {b : Nat} {f : Fil} {room : Int} {n : Nat} (h : Own w0 w g A) (hO : One A s b f room n) :
    Calls Tryd.prog 24 #[.pointer (some ⟨g, 0, none⟩), .string s] w fun e w' => ∃ v, e = .returned (.tuple #[v, .int .i64 0]) ∧ Bytes w' v f.data ∧ Below w.heap.size w w' ∧ Own w0 w' g A := by
  obtain ⟨S, k1, k2, k3⟩ := h
  exact (read_one g S A s b f room n w k1 hO).mono fun e w' ⟨v, he, hc⟩ => ⟨v, he, OwnD.bytes hc.1, hc.2, Own.below ⟨S, k1, k2, k3⟩ hc.2⟩
end
/-- The text of bytes. -/
theorem run_string {w : World} {v : Value} {p : List Int} (h : Bytes w v p) : (convert 32 9 v).run Tryd.prog w = .ok (.string (strOfNums p)) w := by
  rcases h with ⟨rfl, rfl⟩ | ⟨a, rfl, rfl⟩ | ⟨pb, po, cap, rfl, _, _, h4⟩
  · exact run_convert_bytes_nil w 32 5 Tryd.underlying32 Tryd.underlying5 0 0 9 Tryd.underlying9
  · have hl : (loadCells a 0).run Tryd.prog w = .ok (([] : List Int).map (Value.int .u8)).toArray w := run_loadCells_list (P := Tryd.prog) w a [] (fun j v hj => by cases hj)
    rw [run_convert_bytes_string w 32 9 5 _ 0 0 Tryd.underlying32 Tryd.underlying5 Tryd.underlying9, run_bytesToString w _ 0 0 [] hl]
    rfl
  · refine run_convert_bytes_arg w 32 5 Tryd.underlying32 Tryd.underlying5 pb po p.length cap p rfl (fun i hi => h4 i _ ?_) 9 Tryd.underlying9
    rw [List.getElem?_map, List.getD_eq_getElem?_getD, List.getElem?_eq_getElem hi]; rfl

end Go.Proofs.YtpfbiijcmmkjlaaDoor
