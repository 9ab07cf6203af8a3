/- Package simfs: the laws' fixed fact. -/
import Derived.Test.YtpfbiijcmmkjlaaFsV
import Derived.Laws.BytesArg
import Derived.Lib.SlBytesConst
namespace Go.Proofs.Ytpfbiijcmmkjlaa
open Go.RowKit Go.Maps Go.WideMaps

/-- A file system that was made since w0, in blocks of its own. -/
def Own (w0 w : World) (g : Nat) (A : FsA) : Prop := ∃ S : Nat → Prop, Fs w g S A ∧ (∀ k, S k → w0.heap.size ≤ k ∧ k < w.heap.size) ∧ Below w0.heap.size w0 w
section
variable {w0 w w' : World} {g : Nat} {A A' : FsA}
theorem Own.base (h : Own w0 w g A) : Below w0.heap.size w0 w := h.choose_spec.2.2
theorem Own.below (h : Own w0 w g A) (hb : Below w.heap.size w w') : Own w0 w' g A := by
  obtain ⟨S, h1, h2, h3⟩ := h
  exact ⟨S, h1.below hb, fun k hk => ⟨(h2 k hk).1, Nat.lt_of_lt_of_le (h2 k hk).2 hb.size⟩, h3.trans (hb.mono h3.size)⟩
theorem own_next {S : Nat → Prop} (h2 : ∀ k, S k → w0.heap.size ≤ k ∧ k < w.heap.size) (h3 : Below w0.heap.size w0 w) (hF : Fs w' g (grow S w w') A') (hK : Keep S w w') : Own w0 w' g A' :=
  ⟨_, hF, fun k hk => hk.elim (fun h => ⟨(h2 k h).1, Nat.lt_of_lt_of_le (h2 k h).2 hK.size⟩) (fun h => ⟨Nat.le_trans h3.size h.1, h.2⟩),
    ⟨hK.os.trans h3.os, hK.tape.trans h3.tape, hK.output.trans h3.output, Nat.le_trans h3.size hK.size, fun k hk => (hK.block k (Nat.lt_of_lt_of_le hk h3.size) (fun hS => by have := (h2 k hS).1; omega)).trans (h3.block k hk)⟩⟩
theorem own_same {S : Nat → Prop} (h2 : ∀ k, S k → w0.heap.size ≤ k ∧ k < w.heap.size) (h3 : Below w0.heap.size w0 w) (hF : Fs w' g S A') (hK : Keep S w w') : Own w0 w' g A' :=
  own_next h2 h3 (hF.to grow_left fun _ _ _ => rfl) hK
theorem new_own (room : Int) (h1 : 1 ≤ room) (h2 : room ≤ 1048576) (w0 w : World) (h : Below w0.heap.size w0 w) :
    Calls Try.prog 6 #[.int .i64 room] w fun e w' => ∃ g, e = .returned (.tuple #[.pointer (some ⟨g, 0, none⟩), .int .i64 0]) ∧ Own w0 w' g (newA room) :=
  (new_any room h1 h2 w).mono fun _e w' ⟨g, he, _, hF, hB⟩ => ⟨g, he, newB w w', hF, fun _k hk => ⟨Nat.le_trans h.size hk.1, hk.2⟩, h.trans (hB.mono h.size)⟩
theorem create1_own {s : ByteArray} {room : Int} (h : Own w0 w g (newA room)) (h1 : 1 ≤ room) (h2 : room ≤ 1048576) (hs : nameB s = true) :
    Calls Try.prog 15 #[.pointer (some ⟨g, 0, none⟩), .string s] w fun e w' => ∃ b A', e = .returned (.int .i64 0) ∧ Own w0 w' g A' ∧ One A' s b ⟨0, [], 0⟩ room 3 ∧ A'.sure = .map [] ∧ A'.since = [.create s b] := by
  obtain ⟨S, k1, k2, k3⟩ := h
  exact (create1_one g S s room w k1 h1 h2 hs).mono fun e w' ⟨b, A', he, hF, hO, e1, e2, hK⟩ => ⟨b, A', he, own_next k2 k3 hF hK, hO, e1, e2⟩
/-- 'Append' of bytes that were laid just before. -/
theorem append_own_new {s : ByteArray} {b : Nat} {f : Fil} {room : Int} {n : Nat} {k1 k2 : Nat} (p : List Int) (h : Own w0 w g A) (hO : One A s b f room n) (hn : n < 900) (hl : f.data.length + p.length ≤ 65536) (hr : (f.data.length : Int) + p.length ≤ room) :
    Calls Try.prog 16 #[.pointer (some ⟨g, 0, none⟩), .string s, .slice (some ⟨w.heap.size, 0, none⟩) p.length p.length] (w.alloc (.cells (p.map (Value.int .u8)).toArray 5 (k1, k2))) fun e w' => ∃ A', e = .returned (.int .i64 0) ∧ Own w0 w' g A' ∧ One A' s b { f with data := f.data ++ p } room (n + 1) ∧ A'.sure = A.sure ∧ A'.since = A.since := by
  obtain ⟨S, h1, h2, h3⟩ := h
  have hB : Below w.heap.size w (w.alloc (.cells (p.map (Value.int .u8)).toArray 5 (k1, k2))) := (Below.refl _ _).alloc (Nat.le_refl _) _
  have hbn : (w.alloc (.cells (p.map (Value.int .u8)).toArray 5 (k1, k2))).heap[w.heap.size]? = some (.cells (p.map (Value.int .u8)).toArray 5 (k1, k2)) := heap_alloc_new w _
  have hp : Bytes (w.alloc (.cells (p.map (Value.int .u8)).toArray 5 (k1, k2))) (.slice (some ⟨w.heap.size, 0, none⟩) p.length p.length) p := .inr (.inr ⟨w.heap.size, 0, p.length, rfl, Nat.le_refl _, (Array.getElem?_eq_some_iff.1 hbn).1, fun j v hv => by rw [Nat.zero_add, cell_of_row _ _ j _ _ _ hbn]; simpa using hv⟩)
  refine (append_one g S A s b f room n _ p _ (h1.below hB) hO hn hp (fun x hx hS => by cases hx; have h9 : w.heap.size < w.heap.size := (h2 _ hS).2; omega) hl hr).mono fun e w' ⟨A', he, hF, hO', e1, e2, hK⟩ => ⟨A', he, ?_, hO', e1, e2⟩
  exact own_next (fun k hk => ⟨(h2 k hk).1, Nat.lt_of_lt_of_le (h2 k hk).2 hB.size⟩) (h3.trans (hB.mono h3.size)) hF hK
theorem sync_own {s : ByteArray} {b : Nat} {f : Fil} {room : Int} {n : Nat} (h : Own w0 w g A) (hO : One A s b f room n) (hn : n < 900) :
    Calls Try.prog 17 #[.pointer (some ⟨g, 0, none⟩), .string s] w fun e w' => ∃ A', e = .returned (.int .i64 0) ∧ Own w0 w' g A' ∧ One A' s b { f with sure := f.data.length } room (n + 1) ∧ A'.sure = A.sure ∧ A'.since = A.since := by
  obtain ⟨S, k1, k2, k3⟩ := h
  exact (sync_one g S A s b f room n w k1 hO hn).mono fun e w' ⟨A', he, hF, hO', e1, e2, hK⟩ => ⟨A', he, own_same k2 k3 hF hK, hO', e1, e2⟩
theorem read_own {s : ByteArray} {b : Nat} {f : Fil} {room : Int} {n : Nat} (h : Own w0 w g A) (hO : One A s b f room n) :
    Calls Try.prog 14 #[.pointer (some ⟨g, 0, none⟩), .string s] w fun e w' => ∃ v, e = .returned (.tuple #[v, .int .i64 0]) ∧ Bytes w' v f.data ∧ Below w.heap.size w w' ∧ Own w0 w' g A := by
  obtain ⟨S, k1, k2, k3⟩ := h
  exact (read_one g S A s b f room n w k1 hO).mono fun e w' ⟨v, he, hc⟩ => ⟨v, he, OwnD.bytes hc.1, hc.2, Own.below ⟨S, k1, k2, k3⟩ hc.2⟩
theorem crash1_own {s : ByteArray} {b : Nat} {f : Fil} {room : Int} {n : Nat} {v : Value} {tails : List Int} (h : Own w0 w g A) (hO : One A s b f room n) (hn : n < 900) (hsu : A.sure = .map []) (hsi : A.since = [.create s b]) (hv : Ints w v tails) (htl : tails.length < 1000) :
    Calls Try.prog 11 #[.pointer (some ⟨g, 0, none⟩), .int .i64 1, v] w fun e w' => ∃ g' b' X, e = .returned (.pointer (some ⟨g', 0, none⟩)) ∧ Own w0 w' g' X ∧ One X s b' (crashedF f (tails.getD f.num.toNat 0) 0) room 1 ∧ Own w0 w' g A ∧ Below w.heap.size w w' := by
  obtain ⟨S, k1, k2, k3⟩ := h
  exact (crash_one g S A s b f room n v tails w k1 hO hn hsu hsi hv htl).mono fun e w' ⟨g', b', X, he, hF, hO', hB⟩ =>
    ⟨g', b', X, he, ⟨newB w w', hF, fun k hk => ⟨Nat.le_trans k3.size hk.1, hk.2⟩, k3.trans (hB.mono k3.size)⟩, hO', Own.below ⟨S, k1, k2, k3⟩ hB, hB⟩
theorem crash0_own {s : ByteArray} {b : Nat} {f : Fil} {room : Int} {n : Nat} (h : Own w0 w g A) (hO : One A s b f room n) (hn : n < 900) (hsu : A.sure = .map []) :
    Calls Try.prog 11 #[.pointer (some ⟨g, 0, none⟩), .int .i64 0, .slice none 0 0] w fun e w' => ∃ g', e = .returned (.pointer (some ⟨g', 0, none⟩)) ∧ Own w0 w' g' (newA room) ∧ Own w0 w' g A ∧ Below w.heap.size w w' := by
  obtain ⟨S, k1, k2, k3⟩ := h
  refine (crash_any g S A 0 (.slice none 0 0) [] w k1 (hO.inv.crashy (by omega)) (.inl ⟨rfl, rfl⟩) (by simp)).mono fun e w' ⟨g', bs, he, hbl, _, _, hF, hB⟩ => ⟨g', he, ?_, Own.below ⟨S, k1, k2, k3⟩ hB, hB⟩
  have hL : leftD A 0 = .map [] := by
    unfold leftD preD
    rw [show (withinOf 0 A.since.length).toNat = 0 by unfold withinOf; omega, List.take_zero, hsu]; rfl
  have hX : crashA A 0 [] bs = newA room := by
    unfold crashA
    rw [hL, none_names]
    simp only [List.zip_nil_left, crashX, List.foldl_nil]
    rw [hO.room]; rfl
  rw [hX] at hF
  exact ⟨newB w w', hF, fun k hk => ⟨Nat.le_trans k3.size hk.1, hk.2⟩, k3.trans (hB.mono k3.size)⟩
theorem list_own (h : Own w0 w g A) (hn : Maps.size A.now < 1000) :
    Calls Try.prog 13 #[.pointer (some ⟨g, 0, none⟩)] w fun e w' => ∃ v, e = .returned v ∧ w'.ownsRow w.heap.size 9 1 v (namesD A.now).length ((namesD A.now).map Go.Proofs.encStr) ∧ Below w.heap.size w w' ∧ Own w0 w' g A := by
  obtain ⟨S, k1, k2, k3⟩ := h
  exact (list_any g S A w k1 hn).mono fun e w' ⟨v, he, ho, hB⟩ => ⟨v, he, ho, hB, Own.below ⟨S, k1, k2, k3⟩ hB⟩
end
theorem len_own {A : FsA} {w0 w : World} {g : Nat} (h : Own w0 w g A) (hn : Maps.size A.now < 1000) (n : Nat) (hl : (namesD A.now).length = n) :
    Calls Try.prog 13 #[.pointer (some ⟨g, 0, none⟩)] w fun e w' => ∃ la lc, e = .returned (.slice la n lc) ∧ Below w.heap.size w w' ∧ Own w0 w' g A := by
  refine (list_own h hn).mono fun e w' ⟨v, he, ho, hB, hO⟩ => ?_
  rw [hl] at ho
  rcases ho.2 with ⟨rfl, h0⟩ | ⟨q, cap, cur, rfl, _⟩
  · exact ⟨none, 0, by rw [he, h0], hB, hO⟩
  · exact ⟨_, _, he, hB, hO⟩
/-- The text of bytes. -/
theorem run_string {w : World} {v : Value} {p : List Int} (h : Bytes w v p) : (convert 37 9 v).run Try.prog w = .ok (.string (strOfNums p)) w := by
  rcases h with ⟨rfl, rfl⟩ | ⟨a, rfl, rfl⟩ | ⟨pb, po, cap, rfl, _, _, h4⟩
  · exact run_convert_bytes_nil w 37 5 Try.underlying37 Try.underlying5 0 0 9 Try.underlying9
  · have hl : (loadCells a 0).run Try.prog w = .ok (([] : List Int).map (Value.int .u8)).toArray w := run_loadCells_list (P := Try.prog) w a [] (fun j v hj => by cases hj)
    rw [run_convert_bytes_string w 37 9 5 _ 0 0 Try.underlying37 Try.underlying5 Try.underlying9, run_bytesToString w _ 0 0 [] hl]
    rfl
  · refine run_convert_bytes_arg w 37 5 Try.underlying37 Try.underlying5 pb po p.length cap p rfl (fun i hi => h4 i _ ?_) 9 Try.underlying9
    rw [List.getElem?_map, List.getD_eq_getElem?_getD, List.getElem?_eq_getElem hi]; rfl

set_option maxRecDepth 100000 in
set_option maxHeartbeats 8000000 in
theorem awake_any (w : World) : Calls Try.prog 5 #[] w fun e w' => e = .returned (.bool true) ∧ Below w.heap.size w w' := by
  have kc := fun (w : World) (C : Array Value) (n c : Nat) => Lib.run_convert_bytes_const (P := Try.prog) w 37 5 C n c Try.underlying37 Try.underlying5
  go_enter Try.func5, Try.ntmps5
  go_wp2_with fail
  refine (new_own 100 (by omega) (by omega) w w (Below.refl _ _)).mono ?_; rintro e w1 ⟨g, rfl, hw1⟩
  have H1 := Lib.hid hw1
  clear hw1
  go_wp2_with fail
  refine (create1_own (s := nA) H1.out (by omega) (by omega) nameA).mono ?_; rintro e w2 ⟨b, A2, rfl, hw2, hO2, hsu2, hsi2⟩
  have H2 := Lib.hid hw2
  have O2 := Lib.hid hO2
  have SU2 := Lib.hid hsu2
  have SI2 := Lib.hid hsi2
  clear hw2 hO2 hsu2 hsi2
  go_wp2_with fail
  refine (append_own_new [120, 121, 122] H2.out O2.out (by omega) (by simp) (by simp)).mono ?_; rintro e w3 ⟨A3, rfl, hw3, hO3, hsu3, hsi3⟩
  have H3 := Lib.hid hw3
  have O3 := Lib.hid hO3
  have SU3 := Lib.hid (hsu3.trans SU2.out)
  have SI3 := Lib.hid (hsi3.trans SI2.out)
  clear hw3 hO3 hsu3 hsi3
  go_wp2_with fail
  refine (sync_own H3.out O3.out (by omega)).mono ?_; rintro e w4 ⟨A4, rfl, hw4, hO4, hsu4, hsi4⟩
  have H4 := Lib.hid hw4
  have O4 := Lib.hid hO4
  have SU4 := Lib.hid (hsu4.trans SU3.out)
  have SI4 := Lib.hid (hsi4.trans SI3.out)
  clear hw4 hO4 hsu4 hsi4
  go_wp2_with fail
  refine (append_own_new [117, 118] H4.out O4.out (by omega) (by simp) (by simp)).mono ?_; rintro e w5 ⟨A5, rfl, hw5, hO5, hsu5, hsi5⟩
  have H5 := Lib.hid hw5
  have O5 := Lib.hid hO5
  have SU5 := Lib.hid (hsu5.trans SU4.out)
  have SI5 := Lib.hid (hsi5.trans SI4.out)
  clear hw5 hO5 hsu5 hsi5
  go_wp2_with fail
  refine calls_world fun wt hwt => ?_
  have hBt : Below w5.heap.size w5 wt := by rw [hwt]; exact (Below.refl _ _).alloc (Nat.le_refl _) _
  have hIt : Ints wt (.slice (some ⟨w5.heap.size, 0, none⟩) 1 1) [1] := by
    have hb := Blk.new w5 3 [.int .i64 1]
    rw [hwt]
    exact .inr ⟨w5.heap.size, 0, 1, rfl, hb.lt, hb.range 0 _ fun j v hv => by rw [Nat.zero_add]; exact hv⟩
  clear hwt
  refine (crash1_own (H5.out.below hBt) O5.out (by omega) SU5.out SI5.out hIt (by simp)).mono ?_; rintro e w6 ⟨gx, bx, X, rfl, hwx, hOX, hw6, hB6⟩
  have HX := Lib.hid hwx
  have OX : Hid (One X nA bx ⟨0, [120, 121, 122, 117], 4⟩ 100 1) := Lib.hid hOX
  have H6 := Lib.hid hw6
  clear hwx hOX hw6 hB6 hIt hBt
  go_wp2_with fail
  refine (crash0_own H6.out O5.out (by omega) SU5.out).mono ?_; rintro e w7 ⟨gy, rfl, hwy, hw7, hB7⟩
  have HX7 := Lib.hid (HX.out.below hB7)
  have HY := Lib.hid hwy
  clear hwy hw7 hB7
  go_wp2_with fail
  refine (read_own HX7.out OX.out).mono ?_; rintro e w8 ⟨rv, rfl, hrb, hB8, _⟩
  obtain ⟨ra, rc, rfl⟩ := hrb.slice
  have hcv := run_string hrb
  have HCV : Hid ((convert 37 9 (.slice ra 4 rc)).run Try.prog w8 = .ok (.string ⟨#[120, 121, 122, 117]⟩) w8) := hcv
  have HY8 := Lib.hid (HY.out.below hB8)
  clear hrb hB8 hcv
  have hcv := HCV.out
  rw [show ([120, 121, 122, 117] : List Int).length = 4 from rfl]
  go_wp2_with fail
  refine (len_own HY8.out (by show Maps.size (.map []) < 1000; rw [show Maps.size (.map []) = 0 from rfl]; omega) 0 (by show (namesD (.map [])).length = 0; rw [none_names]; rfl)).mono ?_; rintro e w9 ⟨la, lc, rfl, hB9, hw9⟩
  have HE := Lib.hid hw9.base
  clear hB9 hw9
  go_wp2_with fail
  go_ret
  exact ⟨rfl, HE.out⟩
end Go.Proofs.Ytpfbiijcmmkjlaa
