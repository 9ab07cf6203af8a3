/- Package simfs: the names of a directory, rising. Package simfs: what a crash leaves of a file. Package simfs: 'Crash', its parts. Package simfs: 'Crash'. -/
import Derived.Test.YtigbgajelkknbaaGreatDoorFsL
import Derived.Sort.KeysCollected
import Derived.Sort.OwnSorted
import Derived.Deep.RegionHeld3
namespace Go.Proofs.YtigbgajelkknbaaGreatDoor
open Go.RowKit Go.Maps Go.WideMaps
set_option maxRecDepth 100000

theorem strInfo : (Tryz.prog.info? 9).map (fun i => (i.zero, i.size, i.bytes)) = some (some (.string ⟨#[]⟩), 1, 16) := by kernel_rfl
/-- The names of a directory. -/
def namesD (D : DataW Unit) : List (List UInt8) := (strKeys D).mergeSort leB
theorem namesD_length {w : World} {b : Nat} {D : DataW Unit} (h : Dir w b D) : (namesD D).length = Maps.size D := by
  obtain ⟨es, rfl, _⟩ := h.canon
  unfold namesD
  rw [List.length_mergeSort, size_eq]
  simp [strKeys]

set_option maxRecDepth 100000 in
set_option maxHeartbeats 4000000 in
theorem names_any (b : Nat) (D : DataW Unit) (w : World) (h : Dir w b D) (hn : Maps.size D < 1000) :
    Calls Tryz.prog 94 #[.map (some b)] w fun e w' => ∃ v, e = .returned v ∧ w'.ownsRow w.heap.size 9 1 v (namesD D).length ((namesD D).map Go.Proofs.encStr) ∧ Below w.heap.size w w' := by
  obtain ⟨i0, hi, hz0, hz1, hz2⟩ := info_parts strInfo
  have HI := Lib.hid hi
  have HZ0 := Lib.hid hz0
  have HZ1 := Lib.hid hz1
  have HZ2 := Lib.hid hz2
  have hnl := namesD_length h
  obtain ⟨sz, hsz⟩ : ∃ sz, Maps.size D = sz := ⟨_, rfl⟩
  rw [hsz] at hn hnl
  have HLEN : Hid (Dir w b D ∧ Maps.size D = sz) := ⟨h, hsz⟩
  have HNL := Lib.hid hnl
  have HN := Lib.hid hn
  clear hi hz0 hz1 hz2 hsz hnl h hn
  have hb16 : Hid (i0.bytes * sz ≤ 281474976710656) := by show _ ≤ _; rw [HZ2.out]; have := HN.out; omega
  have hb16b : Hid (sz ≤ maxLen) := by show _ ≤ _; have := HN.out; unfold maxLen; omega
  go_enter Tryz.func94, Tryz.ntmps94
  go_wp2_with (first
    | (at_len; refine wpList_len_dir rfl _ rfl b D sz rfl HLEN ?_)
    | (with_reducible refine wpList_make_own w rfl (.const (.int .i64 0)) (.tmp 6) 105 rfl w.heap.size 9 i0 (.string ⟨#[]⟩) 1 Tryz.underlying105 HI.out HZ0.out HZ1.out .i64 .i64 (sz : Int) sz rfl rfl rfl hb16.out hb16b.out (Nat.le_refl _) ?_; intro w1 hown1 hg1)
    | (at_range; refine wpList_range_own _ rfl _ 97 rfl 9 169 law9 Tryz.underlying97 _ b _ _ rfl (HLEN.out.1.to (hg1.block b HLEN.out.1.lt (by simp))) ?_; intro w0 hrg0 hg0 hs0))
  have hbl : b < w.heap.size := HLEN.out.1.lt
  have hd1 : Dir w1 b D := HLEN.out.1.to (hg1.block b hbl (by simp))
  have hB1 : Below w.heap.size w w1 := (Below.refl _ w).grown hg1 (Nat.le_refl _) fun j hj => by cases hj
  have HD1 := Lib.hid hd1
  have HOW1 := Lib.hid hown1
  have HB1 := Lib.hid hB1
  have HSE := Lib.hid HLEN.out.2
  clear hown1 hg1 hd1 hB1
  try go_frame
  have hB0 : Below w.heap.size w w0 := HB1.out.grown hg0 HB1.out.size fun j hj => by cases hj
  have hO0 : w0.ownsRow w.heap.size 9 1 (.slice (some ⟨w.heap.size, 0, none⟩) 0 sz) 0 [] := HOW1.out.kept hg0 (.inr (by simp [Value.ownBlock]))
  go_loopw [3, 4] (fun s3 _ wr => ∃ (left : Lit → Bool) (cnt : Nat) (ss : List (List UInt8)) (g : Option Addr) (c : Nat), wr.ranges Tryz.prog 9 ptrElem b w1.heap.size (Maps.size D) D left cnt ∧ s3 = .slice g ss.length c ∧
      wr.ownsRow w.heap.size 9 1 s3 ss.length (ss.map Go.Proofs.encStr) ∧ Collected D left ss ∧ ss.length + cnt ≤ sz ∧ Below w.heap.size w wr)
    (fun _ _ wr => wr.rangeLeft b w1.heap.size)
  case atStart => exact ⟨_, _, [], _, _, hrg0, rfl, hO0, Collected.start D, by simp; rw [HSE.out]; exact Nat.le_refl _, hB0⟩
  case round =>
    clear hrg0 hg0 hs0 hB0 hO0
    obtain ⟨left, cnt, ss, g, c, hrg, rfl, hO, hC, hsum, hB⟩ := hrel
    have HRG := Lib.hid hrg
    have HSUM := Lib.hid hsum
    have HB := Lib.hid hB
    have HO := Lib.hid hO
    have HC := Lib.hid hC
    clear hrg hsum hB hO hC
    go_wp2_with (first | (at_next; refine wpList_next_ranges _ rfl _ rfl 9 law9 ptrElem Go.Proofs.encStr ptrOf (fun key kl hk => by obtain ⟨x, hx, _⟩ := Maps.keyOf_str Tryz.underlying9 hk; exact ⟨x, hx⟩) (fun v y hv => by obtain ⟨x, hx, _⟩ := ptrElem_inv hv; exact ⟨x, hx⟩) b w1.heap.size _ _ _ _ rfl HRG.out ?_ ?_))
    · intro hc0 hl0
      have hperm := HC.out.perm HRG.out.owns law9 Tryz.underlying9 hl0
      have HNM : Hid (namesD D = ss.mergeSort leB) := (mergeSort_of_perm hperm).symm
      have hpl : (namesD D).length = ss.length := by rw [HNM.out, List.length_mergeSort]
      have HPL := Lib.hid hpl
      clear hperm hl0 hc0 hpl
      go_wp2_with fail
      rcases HO.out.2 with ⟨hv, h0⟩ | ⟨gb, cap, cur, hv, hbase, hb, h1, h2, h3, h4⟩
      · have hss : ss = [] := List.length_eq_zero_iff.1 h0
        subst hss
        obtain ⟨rfl, rfl⟩ : g = none ∧ c = 0 := by cases hv; exact ⟨rfl, rfl⟩
        refine (Tryz.slices_Sort_string_none none 0 _).mono ?_; rintro e w2 ⟨rfl, rfl⟩
        go_wp2_with fail
        go_ret
        refine ⟨.slice none 0 0, rfl, ?_, HB.out⟩
        rw [HPL.out, HNM.out]
        rw [show ([] : List (List UInt8)).mergeSort leB = [] by simp]
        exact World.ownsRow_nil _ _ _ _
      · obtain ⟨rfl, rfl⟩ : g = some ⟨gb, 0, none⟩ ∧ c = cap := by cases hv; exact ⟨rfl, rfl⟩
        have hsl : ss.length < 1000 := by have := HN.out; have := HSUM.out; omega
        have hcc := Tryz.slices_Sort_string gb 0 c ss wr (holds_of_block hb (by simpa using h4)) (heap_lt hb) (by omega)
        refine hcc.mono ?_; rintro e w2 ⟨rfl, nn, os, hw2⟩
        have HFO : Hid (w2.ownsRow w.heap.size 9 1 (.slice (some ⟨gb, 0, none⟩) ss.length c) ss.length ((ss.mergeSort fun x y => decide (x ≤ y)).map Go.Proofs.encStr)) := by
          show w2.ownsRow _ _ _ _ _ _
          rw [hw2]; exact ownsRow_sorted (n := nn) (os := os) (ts := ss.mergeSort fun x y => decide (x ≤ y)) (by simp) hbase hb h1 h2 h3
        have HFB : Hid (Below w.heap.size w w2) := by
          show Below _ _ _
          rw [hw2]; exact HB.out.grown (grownBy_sorted (n := nn) (os := os) (ss.mergeSort fun x y => decide (x ≤ y)).toArray) HB.out.size (fun j hj => by cases hj; exact hbase)
        clear hcc hsl hv hb h4 hw2
        go_wp2_with fail
        go_ret
        refine ⟨.slice (some ⟨gb, 0, none⟩) ss.length c, rfl, ?_, HFB.out⟩
        rw [HPL.out, HNM.out]
        exact HFO.out
    · intro x c' kl yd yp w2 cnt2 hkey hlk hv hat hrg2 hlt hg2 hs2 hen
      obtain ⟨x', ex, rfl, _⟩ := Maps.keyOf_str Tryz.underlying9 hkey
      obtain rfl : x = x' := encStr_inj ex
      have hriter := row_ne_iter HO.out HRG.out
      have hlow := row_ne_low HO.out hbl
      have hO2 := HO.out.kept hg2 (by
        by_cases hh : (Value.slice g ss.length c).ownBlock = none
        · exact .inl hh
        · exact .inr (fun e => hriter e.symm))
      have hC2 := HC.out.step hlk hat
      have hB2 : Below w.heap.size w w2 := HB.out.grown hg2 HB.out.size fun j hj => by obtain rfl := Option.some.inj hj; exact HB1.out.size
      have HO2 := Lib.hid (World.ownsRow.alloc hO2 (.cells #[Go.Proofs.encStr x] 9))
      have HOO2 := Lib.hid hO2
      have HC2 := Lib.hid hC2
      have HB2 := Lib.hid hB2
      have HRG2 := Lib.hid hrg2
      have HLT := Lib.hid hlt
      have HHI := Lib.hid hriter
      have HHL := Lib.hid hlow
      have HLM : Hid (ss.length + 1 ≤ maxLen) := by show _ ≤ _; have := HN.out; have := HSUM.out; unfold maxLen; omega
      have HLB : Hid ((ss.length + 1) * 16 ≤ 140737488355328) := by show _ ≤ _; have := HN.out; have := HSUM.out; omega
      have HON : Hid (∀ u ∈ [Go.Proofs.encStr x], u.oneCell' = true) := fun u hu => by obtain rfl := List.mem_singleton.1 hu; rfl
      have hen' : (Instr.entry (.pointer (some ⟨w1.heap.size, 0, none⟩))).run Tryz.prog w2 = .ok (.tuple #[.string ⟨x.toArray⟩, ptrOf c']) w2 := hen
      have HZB : Hid (w.heap.size ≤ w2.heap.size) := hB2.size
      clear hO2 hC2 hB2 hrg2 hlt hriter hlow hs2 hen hat hlk hv hkey ex hg2
      go_wp2_with (with_reducible refine wpList_append_own_at _ rfl (.tmp 14) (.tmp 16) 105 rfl w.heap.size 9 i0 (.string ⟨#[]⟩) 1 16 Tryz.underlying105 HI.out HZ0.out HZ1.out HZ2.out rfl (by decide) (.slice g ss.length c) ss.length (ss.map Go.Proofs.encStr) rfl HO2.out ⟨w2.heap.size, 0, none⟩ 1 1 [Go.Proofs.encStr x] rfl rfl (cell_one_new _ _ _) HON.out HLM.out HLB.out (Nat.le_trans HZB.out (by simp)) ?_)
      intro v' w3 ho3 hg3 _ _
      have hall : w2.grownBy w3 (Value.slice g ss.length c).ownBlock := ⟨hg3.os, hg3.tape, hg3.output, Nat.le_trans (by simp) hg3.size, fun k hk hne => (hg3.block k (by simp; omega) hne).trans (Below.heap_alloc _ _ k hk)⟩
      have hrg3 := HRG2.out.kept hall HHL.out HHI.out
      have hB3 : Below w.heap.size w w3 := HB2.out.grown hall HB2.out.size fun j hj => (HOO2.out.lt j hj).1
      obtain ⟨g', c3, rfl⟩ := own_slice ho3
      have ho3' : w3.ownsRow w.heap.size 9 1 (.slice g' (ss ++ [x]).length c3) (ss ++ [x]).length ((ss ++ [x]).map Go.Proofs.encStr) := by
        rw [List.length_append, List.map_append]; exact ho3
      have HO3 := Lib.hid ho3'
      have HRG3 := Lib.hid hrg3
      have HB3 := Lib.hid hB3
      clear ho3 hg3 hall hrg3 hB3 ho3'
      go_wp2_with fail
      go_roundw
      case rel => exact ⟨_, _, ss ++ [x], g', c3, HRG3.out, by rw [List.length_append]; rfl, by have := HO3.out; rw [List.length_append] at this ⊢; exact this, HC2.out, by have := HSUM.out; have := HLT.out; rw [List.length_append]; simp only [List.length_cons, List.length_nil]; omega, HB3.out⟩
      case measure => rw [HRG3.out.left_eq, HRG.out.left_eq]; exact HLT.out

set_option maxRecDepth 100000 in
set_option maxHeartbeats 1000000 in
theorem list_any (g : Nat) (S : Nat → Prop) (A : FsA) (w : World) (h : Fs w g S A) (hn : Maps.size A.now < 1000) :
    Calls Tryz.prog 45 #[.pointer (some ⟨g, 0, none⟩)] w fun e w' => ∃ v, e = .returned v ∧ w'.ownsRow w.heap.size 9 1 v (namesD A.now).length ((namesD A.now).map Go.Proofs.encStr) ∧ Below w.heap.size w w' := by
  obtain ⟨pv, bn, bs, sv, vs, dv, hM⟩ := h
  have c6 := hM.row.cell (i := 6) rfl
  have HNM := Lib.hid (names_any bn A.now w hM.now hn)
  clear hM hn
  go_enter Tryz.func45, Tryz.ntmps45
  go_wp2_with fail
  refine HNM.out.mono ?_; rintro e w1 ⟨v, rfl, ho, hB⟩
  obtain ⟨va, vc, rfl⟩ := own_slice ho
  have HO := Lib.hid ho
  clear ho
  go_wp2_with fail
  go_ret
  exact ⟨_, rfl, HO.out, hB⟩
end Go.Proofs.YtigbgajelkknbaaGreatDoor
namespace Go.Proofs.YtigbgajelkknbaaGreatDoor
open Go.RowKit Go.Maps Go.WideMaps
set_option maxRecDepth 100000

theorem quiet_left {P : Program} {f : FuncId} {args : Array Value} {w : World} {n : Nat} {v : Value}
    (h : Calls P f args (w.drewN n) fun e w' => e = .returned v ∧ w.drewN n = w') : Calls P f args (w.drewN n) fun e w'' => e = .returned v ∧ ∃ m, w'' = w.drewN m :=
  h.mono fun _ _ ⟨he, hm⟩ => ⟨he, n, hm.symm⟩
theorem own_base {w : World} {base e size : Nat} {v : Value} {n : Nat} {xs : List Value} (h : w.ownsRow base e size v n xs) : w.ownsRow 0 e size v n xs := by
  refine ⟨h.1, ?_⟩
  rcases h.2 with hq | ⟨y, cap', cur', h1, h2, h3⟩
  · exact .inl hq
  · exact .inr ⟨y, cap', cur', h1, Nat.zero_le _, h3⟩
/-- The value v is a slice of these numbers, wherever. -/
def Ints (w : World) (v : Value) (p : List Int) : Prop :=
  (v = .slice none 0 0 ∧ p = []) ∨ ∃ pb po cap, v = .slice (some ⟨pb, po, none⟩) p.length cap ∧ pb < w.heap.size ∧ w.rangeAt pb po (p.map (Value.int .i64))
theorem Ints.slice {w : World} {v : Value} {p : List Int} (h : Ints w v p) : ∃ a c, v = .slice a p.length c := by
  rcases h with ⟨rfl, rfl⟩ | ⟨pb, po, cap, rfl, _⟩
  · exact ⟨_, _, rfl⟩
  · exact ⟨_, _, rfl⟩
theorem Ints.below {w w' : World} {v : Value} {p : List Int} (h : Ints w v p) (hb : Below w.heap.size w w') : Ints w' v p := by
  rcases h with h | ⟨pb, po, cap, rfl, h3, h4⟩
  · exact Or.inl h
  · exact Or.inr ⟨pb, po, cap, rfl, Nat.lt_of_lt_of_le h3 hb.size, fun j u hu => by rw [World.cell?_of_block (w := w) (hb.block pb h3)]; exact h4 j u hu⟩
set_option maxRecDepth 100000 in
set_option maxHeartbeats 1000000 in
theorem at_any (v : Value) (p : List Int) (i : Nat) (w : World) (h : Ints w v p) (_hi : i < 4611686018427387904) (hpl : p.length < 4611686018427387904) :
    Calls Tryz.prog 96 #[v, .int .i64 i] w fun e w' => e = .returned (.int .i64 (p.getD i 0)) ∧ w = w' := by
  obtain ⟨va, vc, rfl⟩ := h.slice
  by_cases hlt : i < p.length
  · rcases h with ⟨_, rfl⟩ | ⟨pb, po, cap, hv, _, hr⟩
    · simp at hlt
    · cases hv
      have c := hr i (.int .i64 (p.getD i 0)) (by rw [List.getElem?_map, List.getD_eq_getElem?_getD, List.getElem?_eq_getElem hlt]; rfl)
      have hlt' : (i : Int) < p.length := by omega
      generalize p.getD i 0 = x at *
      clear _hi hpl hr
      go_enter Tryz.func96, Tryz.ntmps96
      go_wp2_with fail
      go_ret
      exact ⟨rfl, rfl⟩
  · have hge : (p.length : Int) ≤ i := by omega
    have hx : p.getD i 0 = 0 := by rw [List.getD_eq_getElem?_getD, List.getElem?_eq_none (by omega)]; rfl
    rw [hx]
    clear _hi hpl h hx hlt
    go_enter Tryz.func96, Tryz.ntmps96
    go_wp2_with fail
    go_ret
    exact ⟨rfl, rfl⟩
/-- How many bytes are left of a file. -/
def leftN (f : Fil) (tail : Int) : Nat := f.sure + (withinOf tail ((f.data.length : Int) - f.sure)).toNat
theorem leftN_le (f : Fil) (tail : Int) (h : f.sure ≤ f.data.length) : leftN f tail ≤ f.data.length := by unfold leftN withinOf; omega
def crashedF (f : Fil) (tail num : Int) : Fil := ⟨num, f.data.take (leftN f tail), leftN f tail⟩

set_option maxRecDepth 100000 in
set_option maxHeartbeats 4000000 in
theorem crashed_any (b : Nat) (d : Value) (f : Fil) (tail num : Int) (w : World) (h : FileAt w b d f) (hl : f.data.length ≤ 65536) (hs : f.sure ≤ f.data.length) :
    Calls Tryz.prog 95 #[.pointer (some ⟨b, 0, none⟩), .int .i64 tail, .int .i64 num] w fun e w' => ∃ nb d', e = .returned (.pointer (some ⟨nb, 0, none⟩)) ∧ w.heap.size ≤ nb ∧ FileAt w' nb d' (crashedF f tail num) ∧
      (∀ k, d'.ownBlock = some k → w.heap.size ≤ k) ∧ Below w.heap.size w w' := by
  obtain ⟨da, dc, rfl⟩ := own_slice h.2
  have c1 := h.1.cell (i := 1) rfl
  have c2 := h.1.cell (i := 2) rfl
  obtain ⟨n, hn⟩ : ∃ n, n = leftN f tail := ⟨_, rfl⟩
  have hnl : n ≤ f.data.length := by rw [hn]; exact leftN_le f tail hs
  have hns : (f.sure : Int) + withinOf tail ((f.data.length : Int) - f.sure) = n := by rw [hn]; unfold leftN withinOf; omega
  have hsub : IntKind.i64.wrap ((f.data.length : Int) - f.sure) = f.data.length - f.sure := IntWalk.i64_in _ (by omega)
  have hadd : IntKind.i64.wrap ((f.sure : Int) + withinOf tail ((f.data.length : Int) - f.sure)) = n := by rw [hns]; exact IntWalk.i64_in _ (by omega)
  have hwi := fun W => within_any tail ((f.data.length : Int) - f.sure) W
  generalize withinOf tail ((f.data.length : Int) - f.sure) = wi at *
  have HF := Lib.hid h
  have HN := Lib.hid hn
  have HWI := Lib.hid hwi
  clear h hn hns hwi
  go_enter Tryz.func95, Tryz.ntmps95
  go_wp2_with fail
  go_quiet ((go_at_call 93; (with_reducible exact quiet_left (HWI.out _))))
  have hnl' : (n : Int) ≤ f.data.length := by omega
  have HFD : Hid (FileAt (w.drewN nq) b (.slice da f.data.length dc) f) := HF.out
  rcases HF.out.2.2 with ⟨hv, h0⟩ | ⟨x, cap, cur, hv, _, hx, hcap, hmx, hcs, hxs⟩
  · obtain ⟨rfl, rfl⟩ : da = none ∧ dc = 0 := by injection hv with h1 h2 h3; exact ⟨h1, h3⟩
    obtain rfl : n = 0 := by omega
    have HBC := Lib.hid fun W => Tryz.bytes_Clone_nil 0 0 W
    have HCF : Hid (crashedF f tail num = ⟨num, [], 0⟩) := by show _ = _; unfold crashedF; rw [← HN.out]; rfl
    clear hv hsub hadd
    go_wp2_with fail
    refine (HBC.out _).mono ?_; rintro e w2 ⟨rfl, rfl⟩
    go_wp2_with fail
    go_ret
    refine ⟨w.heap.size, .slice none 0 0, rfl, Nat.le_refl _, ?_, (fun k hk => by cases hk), (Below.drewN (Below.refl _ w) nq).alloc (Nat.le_refl _) _⟩
    rw [HCF.out]
    exact ⟨Blk.new (w.drewN nq) _ _, World.ownsRow_nil _ _ _ _⟩
  · obtain ⟨rfl, rfl⟩ : da = some ⟨x, 0, none⟩ ∧ dc = cap := by injection hv with h1 h2 h3; exact ⟨h1, h3⟩
    have hkc : n ≤ dc := by omega
    have htl : (f.data.take n).length = n := by simp; omega
    have HBC := Lib.hid (Tryz.bytes_Clone_at ⟨x, 0, none⟩ n dc (f.data.take n) (w.drewN nq) htl (by omega) fun i hi => by
      have e : Addr.add ⟨x, 0, none⟩ i = ⟨x, i, none⟩ := by unfold Addr.add; by_cases h : i = 0 <;> simp [h]
      have hx' : (w.drewN nq).heap[x]? = some (.cells cur 5 (0, 0)) := hx
      rw [e, cell_of_row _ x i cur 5 (0, 0) hx', ← Array.getElem?_toList]
      have hid : i < f.data.length := by omega
      have h1 : (f.data.map (Value.int .u8))[i]? = some (.int .u8 ((f.data.take n).getD i 0)) := by
        rw [List.getElem?_map, List.getD_eq_getElem?_getD, List.getElem?_take_of_lt hi, List.getElem?_eq_getElem hid]; rfl
      rw [← hxs, List.getElem?_take_of_lt (by omega)] at h1
      exact h1)
    have HCF : Hid (crashedF f tail num = ⟨num, f.data.take n, n⟩) := by show _ = _; unfold crashedF; rw [← HN.out]
    have HTL := Lib.hid htl
    clear hv hsub hadd htl hx hxs
    go_wp2_with fail
    refine HBC.out.mono ?_; rintro e w2 ⟨v', rfl, ho, _, hB2⟩
    obtain ⟨va, vc, rfl⟩ := own_slice ho
    have HO := Lib.hid ho
    have HB2 : Hid (Below w.heap.size w w2) := (Below.drewN (Below.refl _ w) nq).trans hB2
    clear ho hB2
    go_wp2_with fail
    go_ret
    refine ⟨w2.heap.size, .slice va n vc, rfl, HB2.out.size, ?_, fun k hk => (HO.out.lt k hk).1, HB2.out.alloc HB2.out.size _⟩
    rw [HCF.out]
    refine ⟨Blk.new w2 _ _, ?_⟩
    have ha := World.ownsRow.alloc HO.out (.cells #[.int .i64 num, .slice va n vc, .int .i64 n] 176)
    show World.ownsRow _ 0 5 1 _ (f.data.take n).length _
    rw [HTL.out]
    exact own_base ha
end Go.Proofs.YtigbgajelkknbaaGreatDoor
namespace Go.Proofs.YtigbgajelkknbaaGreatDoor
open Go.RowKit Go.Maps Go.WideMaps
set_option maxRecDepth 100000

/-- A kept change, called. -/
theorem clo_call {w : World} {S : Nat → Prop} {v : Value} {c : Chg} {m : Nat} {D : DataW Unit} (hc : Clo w S v c) (hD : Dir w m D) (hz : Maps.size D < 1000000) :
    ∃ fn cap, v = .func (.func fn) #[] cap ∧ (∀ args w, (callFunc fn args).run Tryz.prog w = .ok (.enter fn args) w) ∧ Calls Tryz.prog fn (#[.map (some m)] ++ cap) w fun e w' => e = .returned (.tuple #[]) ∧ Dir w' m (c.ap D) ∧ w.grownBy w' (some m) := by
  cases c with
  | create n b => obtain ⟨xb, nb, hv, h2, h3, _, _, h6⟩ := hc; exact ⟨_, _, hv, enters_of Tryz.func140 (by kernel_rfl) rfl, create1_any xb nb m n b D w h2 h3 h6 hD hz⟩
  | rename a b => obtain ⟨xa, xb, hv, h2, h3, _, _, h6, h7⟩ := hc; exact ⟨_, _, hv, enters_of Tryz.func146 (by kernel_rfl) rfl, rename1_any xa xb m a b D w h2 h3 h6 h7 hD hz⟩
  | remove a => obtain ⟨xa, hv, h2, _, h6⟩ := hc; exact ⟨_, _, hv, enters_of Tryz.func141 (by kernel_rfl) rfl, remove1_any xa m a D w h2 h6 hD⟩
theorem size_ap_le {D : DataW Unit} (h : Maps.Tidy D) (c : Chg) : Maps.size (c.ap D) ≤ Maps.size D + 1 := by
  cases c with
  | create n b => show Maps.size (D.put _ _) ≤ _; rw [size_put h]; split <;> omega
  | rename a b =>
    show Maps.size ((D.del _).put _ _) ≤ _
    rw [size_put (h.del _)]
    have := size_del (k := keyL a) h
    split <;> omega
  | remove a => show Maps.size (D.del _) ≤ _; have := size_del (k := keyL a) h; omega

/-- A file system that is being made: its sure directory isn't there yet. -/
structure Mk (w : World) (g : Nat) (S : Nat → Prop) (X : FsA) (bn : Nat) (dv : Nat → Value) : Prop where
  row : Blk w g 100 [.int .i64 0, .bool false, .int .i64 0, .slice none 0 0, .int .i64 X.room, .int .i64 X.created, .map (some bn), .map none, .slice none 0 0]
  gS : S g
  now : Dir w bn X.now
  nS : S bn
  file : ∀ b f, X.file b = some f → FileAt w b (dv b) f ∧ S b ∧ ∀ k, (dv b).ownBlock = some k → S k
  apart : ∀ b b', b ≠ b' → (X.file b).isSome = true → (X.file b').isSome = true → ∀ k, (dv b).ownBlock = some k → (dv b').ownBlock ≠ some k
section
variable {w w' : World} {g : Nat} {S T : Nat → Prop} {X : FsA} {bn : Nat} {dv : Nat → Value}
theorem Mk.to (h : Mk w g S X bn dv) (hT : ∀ k, S k → T k) (hs : ∀ k, k < w.heap.size → w'.heap[k]? = w.heap[k]?) : Mk w' g T X bn dv where
  row := Blk.of (hs _ h.row.lt) h.row
  gS := hT _ h.gS
  now := h.now.to (hs _ h.now.lt)
  nS := hT _ h.nS
  file := fun b f e => by
    obtain ⟨h1, h2, h3⟩ := h.file b f e
    exact ⟨h1.to (hs b h1.1.lt) fun k cur e _ => hs k (heap_lt e), hT _ h2, fun k o => hT _ (h3 k o)⟩
  apart := h.apart
theorem Mk.addFile (h : Mk w g S X bn dv) {nb : Nat} {d' : Value} {f' : Fil} (hB : Below w.heap.size w w') (hf : FileAt w' nb d' f') (hn : w.heap.size ≤ nb) (hd : ∀ k, d'.ownBlock = some k → w.heap.size ≤ k)
    (hT : ∀ k, S k → T k) (hT2 : ∀ k, w.heap.size ≤ k → k < w'.heap.size → T k) :
    Mk w' g T { X with file := fun k => if k = nb then some f' else X.file k } bn (fun k => if k = nb then d' else dv k) := by
  have h1 := h.to hT hB.block
  have hlt : ∀ {x}, d'.ownBlock = some x → x < w'.heap.size := fun {x} hx => by obtain ⟨cur, hcur⟩ := hf.2.blk x hx; exact heap_lt hcur
  have hold : ∀ {k f}, X.file k = some f → ∀ x, (dv k).ownBlock = some x → x < w.heap.size := fun {k f} e x hx => by obtain ⟨cur, hcur⟩ := (h.file k f e).1.2.blk x hx; exact heap_lt hcur
  refine ⟨h1.row, h1.gS, h1.now, h1.nS, ?_, ?_⟩
  · intro k f e
    simp only at e ⊢
    by_cases hk : k = nb
    · subst hk
      rw [if_pos rfl] at e ⊢
      cases e
      exact ⟨hf, hT2 _ hn hf.1.lt, fun x hx => hT2 _ (hd x hx) (hlt hx)⟩
    · rw [if_neg hk] at e ⊢
      exact h1.file k f e
  · intro k k' hne h2 h3 x hx hx'
    simp only at h2 h3 hx hx'
    by_cases hk : k = nb
    · rw [if_pos hk] at hx
      rw [if_neg (fun e => hne (by rw [hk, e]))] at h3 hx'
      obtain ⟨f0, hf0⟩ := Option.isSome_iff_exists.1 h3
      have := hold hf0 x hx'
      have := hd x hx; omega
    · rw [if_neg hk] at h2 hx
      by_cases hk' : k' = nb
      · rw [if_pos hk'] at hx'
        obtain ⟨f0, hf0⟩ := Option.isSome_iff_exists.1 h2
        have := hold hf0 x hx
        have := hd x hx'; omega
      · rw [if_neg hk'] at h3 hx'
        exact h.apart k k' hne h2 h3 x hx hx'
theorem Mk.turn (h : Mk w g S X bn dv) (hg : w.grownBy w' (some bn)) {D : DataW Unit} (hd : Dir w' bn D) : Mk w' g S { X with now := D } bn dv := by
  obtain ⟨es, cl, hn, _⟩ := h.now
  have hs : ∀ {k : Nat} {cs : Array Value} {t : TypeId} {fr : Nat × Nat}, w.heap[k]? = some (.cells cs t fr) → w'.heap[k]? = w.heap[k]? := fun {k cs t fr} e =>
    hg.block k (heap_lt e) (fun x => kind_ne e hn (by intro y; cases y) (Option.some.inj x))
  exact ⟨Blk.of (hs h.row) h.row, h.gS, hd, h.nS, fun b f e => by
    obtain ⟨h1, h2, h3⟩ := h.file b f e
    exact ⟨h1.to (hs h1.1) fun k cur e _ => hs e, h2, h3⟩, h.apart⟩
/-- The head alone is turned. -/
theorem Mk.head (h : Mk w g S X bn dv) (hs : ∀ k, k ≠ g → w'.heap[k]? = w.heap[k]?) {cr : Int}
    (hr : Blk w' g 100 [.int .i64 0, .bool false, .int .i64 0, .slice none 0 0, .int .i64 X.room, .int .i64 cr, .map (some bn), .map none, .slice none 0 0]) : Mk w' g S { X with created := cr } bn dv := by
  have ct : ∀ {cs cs' : Array Value} {t t' : TypeId} {fr fr' : Nat × Nat}, t ≠ t' → Obj.cells cs t fr ≠ .cells cs' t' fr' := fun hne e => by injection e with _ e2 _; exact hne e2
  obtain ⟨es, cl, hn, _⟩ := h.now
  exact ⟨hr, h.gS, h.now.to (hs _ (kind_ne hn h.row (by intro y; cases y))), h.nS, fun b f e => by
    obtain ⟨h1, h2, h3⟩ := h.file b f e
    exact ⟨h1.to (hs _ (kind_ne h1.1 h.row (ct (by decide)))) fun k cur e _ => hs _ (kind_ne e h.row (ct (by decide))), h2, h3⟩, h.apart⟩
/-- It is made. -/
theorem Mk.done (h : Mk w g S X bn dv) (hs : ∀ k, k < w.heap.size → k ≠ g → w'.heap[k]? = w.heap[k]?) (hT : ∀ k, S k → T k) {bs : Nat}
    (hr : Blk w' g 100 [.int .i64 0, .bool false, .int .i64 0, .slice none 0 0, .int .i64 X.room, .int .i64 X.created, .map (some bn), .map (some bs), .slice none 0 0]) (hd : Dir w' bs X.now) (hbs : w.heap.size ≤ bs) (hbT : T bs)
    (hX : X.count = 0 ∧ X.armed = false ∧ X.left = 0 ∧ X.plan = [] ∧ X.since = []) : FsM w' g T { X with sure := X.now } (.slice none 0 0) bn bs (.slice none 0 0) [] dv := by
  have ct : ∀ {cs cs' : Array Value} {t t' : TypeId} {fr fr' : Nat × Nat}, t ≠ t' → Obj.cells cs t fr ≠ .cells cs' t' fr' := fun hne e => by injection e with _ e2 _; exact hne e2
  obtain ⟨es, cl, hn, _⟩ := h.now
  obtain ⟨h1, h2, h3, h4, h5⟩ := hX
  refine { row := ?_, gS := hT _ h.gS, plan := .inl ⟨rfl, h4⟩, planS := (fun k hk => by cases hk), now := h.now.to (hs _ (heap_lt hn) (kind_ne hn h.row (by intro y; cases y))), nS := hT _ h.nS, sure := hd, sS := hbT, ne := ?_, since := World.ownsRow_nil _ _ _ _, sinceS := (fun k hk => by cases hk), cloL := ?_, clo := ?_, file := ?_, apart := h.apart }
  · rw [show ({ X with sure := X.now } : FsA).count = 0 from h1, show ({ X with sure := X.now } : FsA).armed = false from h2, show ({ X with sure := X.now } : FsA).left = 0 from h3]; exact hr
  · have := heap_lt hn; omega
  · show 0 = X.since.length; rw [h5]; rfl
  · intro i c e
    rw [show ({ X with sure := X.now } : FsA).since = [] from h5] at e
    cases e
  · intro b f e
    obtain ⟨k1, k2, k3⟩ := h.file b f e
    exact ⟨k1.to (hs _ k1.1.lt (kind_ne k1.1 h.row (ct (by decide)))) fun k cur e _ => hs _ (heap_lt e) (kind_ne e h.row (ct (by decide))), hT _ k2, fun k o => hT _ (k3 k o)⟩
end
/-- A store into a directory, as a step of a region. -/
theorem step_put {ops : Array Oper} {o : Oper} {a : Act} {w : World} {K : Act → World → Prop} {Q : Exit → Act → World → Prop} {E : Prop} (hgd : o.guard = none) (m x v : Operand) (hop : o.op = Op.mapUpdate 97 m x v)
    (b : Nat) (D : DataW Unit) (s : ByteArray) (y : Nat) (hm : a.eval m = .map (some b)) (hd : Dir w b D) (hz : Maps.size D < 1000000) (hx : a.eval x = .string s) (hs : s.size ≤ 1000) (hv : a.eval v = .pointer (some ⟨y, 0, none⟩))
    (h : ∀ w', Dir w' b (D.put (keyL s) (.lit (.int .i64 y))) → w.grownBy w' (some b) → K (a.put o.dst undef) w') : if Region.wanted o (yielded ops a.tmps) = true then Oper.wp Tryz.prog o a w K Q else E := by
  refine step_plain hgd ?_
  obtain ⟨w', hrun, r1, r2⟩ := World.ownsMap.update hd law9 Tryz.underlying97 (by unfold maxLen; omega) (key9 (s := s) (by unfold maxLen; omega)) (ptrElem_of (some y))
  have hrun' : (Instr.mapUpdate 97 (.map (some b)) (.string s) (.pointer (some ⟨y, 0, none⟩))).run Tryz.prog w = .ok () w' := hrun
  unfold Oper.wp
  simp [execOp, hop, hm, hx, hv, hrun', Result.andThen]
  exact h w' (Dir.of r1) r2
end Go.Proofs.YtigbgajelkknbaaGreatDoor
namespace Go.Proofs.YtigbgajelkknbaaGreatDoor
open Go.RowKit Go.Maps Go.WideMaps
set_option maxRecDepth 100000

/-- The directory that was sure with the first changes since. -/
def preD (A : FsA) (i : Nat) : DataW Unit := (A.since.take i).foldl Chg.ap A.sure
def leftD (A : FsA) (dirs : Int) : DataW Unit := preD A (withinOf dirs A.since.length).toNat
theorem preD_succ (A : FsA) (i : Nat) (c : Chg) (h : A.since[i]? = some c) : preD A (i + 1) = c.ap (preD A i) := by
  unfold preD
  obtain ⟨hi, rfl⟩ := List.getElem?_eq_some_iff.1 h
  rw [List.take_succ_eq_append_getElem hi, List.foldl_append]; rfl
def fileOf (A : FsA) (L : DataW Unit) (s : List UInt8) : Fil := ((dget L ⟨s.toArray⟩).bind A.file).getD ⟨0, [], 0⟩
/-- One file of what is left. -/
def crashStep (A : FsA) (L : DataW Unit) (tails : List Int) (X : FsA) (sb : List UInt8 × Nat) : FsA :=
  { X with file := fun k => if k = sb.2 then some (crashedF (fileOf A L sb.1) (tails.getD (fileOf A L sb.1).num.toNat 0) X.created) else X.file k, now := X.now.put (.string sb.1) (.lit (.int .i64 sb.2)), created := X.created + 1 }
def crashX (A : FsA) (L : DataW Unit) (tails : List Int) (l : List (List UInt8 × Nat)) : FsA := l.foldl (crashStep A L tails) (newA A.room)
theorem crashX_base (A : FsA) (L : DataW Unit) (tails : List Int) : ∀ (l : List (List UInt8 × Nat)) (X : FsA), X.count = 0 ∧ X.armed = false ∧ X.left = 0 ∧ X.plan = [] ∧ X.since = [] ∧ X.room = A.room →
    (l.foldl (crashStep A L tails) X).count = 0 ∧ (l.foldl (crashStep A L tails) X).armed = false ∧ (l.foldl (crashStep A L tails) X).left = 0 ∧ (l.foldl (crashStep A L tails) X).plan = [] ∧ (l.foldl (crashStep A L tails) X).since = [] ∧ (l.foldl (crashStep A L tails) X).room = A.room
  | [], _X, h => h
  | _p :: l, _X, h => crashX_base A L tails l _ h
/-- What a crash leaves. -/
def crashA (A : FsA) (dirs : Int) (tails : List Int) (bs : List Nat) : FsA :=
  { crashX A (leftD A dirs) tails ((namesD (leftD A dirs)).zip bs) with sure := (crashX A (leftD A dirs) tails ((namesD (leftD A dirs)).zip bs)).now }
/-- Of what a crash is asked. -/
structure Crashy (A : FsA) : Prop where
  len : A.since.length < 1000
  size : ∀ i, Maps.size (preD A i) < 1000
  ok : ∀ i, OkD A.file (preD A i)
  short : Short A
  num : ∀ b f, A.file b = some f → 0 ≤ f.num ∧ f.num < 4611686018427387904
  room : A.room < 4611686018427387904

/-- A name of a directory is a file's. -/
theorem name_file {fl : Nat → Option Fil} {L : DataW Unit} (h : OkD fl L) {s : List UInt8} (hs : s ∈ namesD L) : ∃ b f, dget L ⟨s.toArray⟩ = some b ∧ fl b = some f ∧ s.length ≤ 20 := by
  obtain ⟨es, rfl, hp⟩ := h
  unfold namesD at hs
  rw [List.mem_mergeSort] at hs
  obtain ⟨p, hpm, hps⟩ := List.mem_map.1 hs
  obtain ⟨s', _, _, h1, h2, _, _⟩ := hp p hpm
  have hse : s = s'.data.toList := by rw [← hps, h1]; rfl
  have hkey : keyL ⟨s.toArray⟩ = Lit.string s := by unfold keyL; simp
  cases hf : es.find? (fun p => p.1.sameKey (keyL ⟨s.toArray⟩)) with
  | none =>
    have := List.find?_eq_none.1 hf p hpm
    rw [hkey, h1] at this
    simp [keyL, Lit.sameKey, hse] at this
  | some q =>
    obtain ⟨_, b, f, _, _, h3, h4⟩ := hp q (List.mem_of_find?_eq_some hf)
    refine ⟨b, f, ?_, h4, by rw [hse]; simpa using h2⟩
    unfold dget DataW.atKey
    simp [hf, h3]

set_option maxRecDepth 100000 in
set_option maxHeartbeats 8000000 in
theorem crash_any (g : Nat) (S : Nat → Prop) (A : FsA) (dirs : Int) (v : Value) (tails : List Int) (w : World) (h : Fs w g S A) (hc : Crashy A) (hv : Ints w v tails) (htl : tails.length < 4611686018427387904) :
    Calls Tryz.prog 42 #[.pointer (some ⟨g, 0, none⟩), .int .i64 dirs, v] w fun e w' => ∃ g' bs, e = .returned (.pointer (some ⟨g', 0, none⟩)) ∧ bs.length = (namesD (leftD A dirs)).length ∧ bs.Nodup ∧ (∀ b ∈ bs, w.heap.size ≤ b) ∧
      Fs w' g' (newB w w') (crashA A dirs tails bs) ∧ Below w.heap.size w w' := by
  obtain ⟨pv, bn, bs, sv, vs, dv, hM⟩ := h
  obtain ⟨va, vc, rfl⟩ := hv.slice
  have HV := Lib.hid hv
  have HC := Lib.hid hc
  have HM := Lib.hid hM
  have HTL := Lib.hid htl
  have c7 := hM.row.cell (i := 7) rfl
  clear hv hM hc htl
  go_enter Tryz.func42, Tryz.ntmps42
  go_wp2_with fail
  refine (mapsClone_any bs A.sure w HM.out.sure).mono ?_; rintro e w1 ⟨rfl, hd1, hB1⟩
  have HD1 := Lib.hid hd1
  have HB1 := Lib.hid hB1
  obtain ⟨sa, sc, hsv⟩ := own_slice HM.out.since
  have hrow1 := Below.blk hB1 HM.out.row.lt HM.out.row
  have c8 := hrow1.cell (i := 8) rfl
  rw [hsv] at c8
  have hvl : vs.length = A.since.length := HM.out.cloL
  have hvb : vs.length < 1000 := by have := HC.out.len; omega
  obtain ⟨k, hk⟩ : ∃ k : Nat, k = (withinOf dirs A.since.length).toNat := ⟨_, rfl⟩
  have hkw : withinOf dirs (vs.length : Int) = (k : Int) := by rw [hk, hvl]; unfold withinOf; omega
  have hkl : k ≤ vs.length := by unfold withinOf at hkw; omega
  have HWI := Lib.hid fun W => within_any dirs (vs.length : Int) W
  rw [hkw] at HWI
  have HK := Lib.hid hk
  have HSV := Lib.hid hsv
  have HVL := Lib.hid hvl
  clear hd1 hB1 hrow1 hk hkw hvl hsv c7
  have hkl' : (k : Int) ≤ vs.length := by omega
  -- the kept changes' cells
  have HVS : Hid ((sa = none ∧ k = 0 ∧ sc = 0) ∨ ∃ x, sa = some ⟨x, 0, none⟩ ∧ vs.length ≤ sc ∧ ∀ (W : World), Below w.heap.size w W → ∀ i u, vs[i]? = some u → W.cell? ⟨x, i, none⟩ = some u) := by
    have hsin := HM.out.since
    rw [HSV.out] at hsin
    rcases hsin.2 with ⟨hq, h0⟩ | ⟨x, cap, cur, hq, _, hx, hcap, _, hcs, hxs⟩
    · injection hq with h1 h2 h3; exact .inl ⟨h1, by omega, h3⟩
    · injection hq with h1 h2 h3
      refine .inr ⟨x, h1, by omega, fun W hb i u hu => ?_⟩
      rw [World.cell?_of_block (w := w) (a := ⟨x, i, none⟩) (hb.block x (heap_lt hx)), cell_of_row w x i cur 172 (0, 0) hx, ← Array.getElem?_toList]
      rw [← hxs, List.getElem?_take] at hu
      split at hu
      · exact hu
      · cases hu
  have hks : k ≤ sc := by
    rcases HVS.out with ⟨_, h1, h2⟩ | ⟨x, _, h2, _⟩
    · omega
    · omega
  have hks' : (k : Int) ≤ (sc : Int) := by omega
  go_wp2_with fail
  go_quiet ((go_at_call 93; (with_reducible exact quiet_left (HWI.out _))))
  go_wp2_with fail
  have hB1q : Below w.heap.size w (w1.drewN nq) := Below.drewN HB1.out nq
  have hd1q : Dir (w1.drewN nq) w.heap.size (preD A 0) := HD1.out
  clear c8 hks hks'
  go_loopw [9, 31] (fun _ s31 wr => ∃ i : Nat, i ≤ k ∧ s31 = .int .i64 i ∧ Dir wr w.heap.size (preD A i) ∧ Below w.heap.size w wr)
    (fun _ s31 _ => k - (intOf s31).toNat)
  case atStart => exact ⟨0, by omega, rfl, hd1q, hB1q⟩
  case round =>
    clear hB1q hd1q
    obtain ⟨i, hi, rfl, hd, hB⟩ := hrel
    by_cases hlt : i < k
    · rcases HVS.out with ⟨_, h1, _⟩ | ⟨x, hsa, hvc, hcell⟩
      · omega
      · have hiv : i < vs.length := by omega
        have hia : i < A.since.length := by have := HVL.out; omega
        obtain ⟨cv, hcv, hclo⟩ := HM.out.clo i A.since[i] (List.getElem?_eq_getElem hia)
        have c := hcell wr hB i cv hcv
        have hclo' : Clo wr S cv A.since[i] := hclo.to (fun _ k => k) fun k' cs hk' _ => hB.block k' (hk'.elim Blk.lt Blk.lt)
        obtain ⟨fn, cap, rfl, heg, hcall⟩ := clo_call hclo' hd (by have := HC.out.size i; omega)
        have HP : Hid (A.since[i].ap (preD A i) = preD A (i + 1)) := (preD_succ A i _ (List.getElem?_eq_getElem hia)).symm
        have HCALL := Lib.hid hcall
        have HB := Lib.hid hB
        have hc0 : wr.cell? ⟨x, 0 + i, none⟩ = some (.func (.func fn) #[] cap) := by rw [Nat.zero_add]; exact c
        subst hsa
        have li : (i : Int) < k := by omega
        clear hcell hcv hclo hclo' hcall hd hB hiv
        go_wp2_with fail
        refine HCALL.out.mono ?_; rintro e w2 ⟨rfl, hd2, hg2⟩
        have hB2 : Below w.heap.size w w2 := HB.out.grown hg2 HB.out.size fun j hj => by cases hj; exact Nat.le_refl _
        rw [HP.out] at hd2
        have HD2 := Lib.hid hd2
        have HB2 := Lib.hid hB2
        clear hd2 hg2 hB2 heg
        go_wp2_with fail
        go_roundw
        case rel => exact ⟨i + 1, by omega, by go_num, HD2.out, HB2.out⟩
        case measure => simp [intOf]; omega
    · obtain rfl : i = k := by omega
      have HD := Lib.hid hd
      have HB := Lib.hid hB
      have HLD : Hid (preD A i = leftD A dirs) := by show _ = _; unfold leftD; rw [← HK.out]
      have hrowr := Below.blk hB HM.out.row.lt HM.out.row
      have c4 := hrowr.cell (i := 4) rfl
      have hmm := @run_makeMap Tryz.prog
      clear hd hB hrowr
      rw [HLD.out] at HD
      go_wp2_with fail
      refine calls_world fun wm hwm => ?_
      have hBm : Below wr.heap.size wr wm := by rw [hwm]; exact ((Below.refl _ _).alloc (Nat.le_refl _) _).alloc (by simp) _
      have hmk : Mk wm (wr.heap.size + 1) (newB w wm) (newA A.room) wr.heap.size (fun _ => .slice none 0 0) := by
        have hlt : wm.heap.size = wr.heap.size + 1 + 1 := by rw [hwm]; simp
        have hsz := HB.out.size
        refine ⟨?_, ⟨by omega, by omega⟩, ?_, ⟨by omega, by omega⟩, (fun b f h => by cases h), (fun b b' _ h => by cases h)⟩
        · have := Blk.new (wr.alloc (.map #[] 0)) 100 [.int .i64 0, .bool false, .int .i64 0, .slice none 0 0, .int .i64 A.room, .int .i64 0, .map (some wr.heap.size), .map none, .slice none 0 0]
          rw [World.size_alloc] at this
          rw [hwm]; exact this
        · rw [hwm]; exact Dir.of ((World.ownsMap_made wr _ _ _).alloc _)
      have hdm : Dir wm w.heap.size (leftD A dirs) := HD.out.to (hBm.block _ HD.out.lt)
      have HBM := Lib.hid (HB.out.trans (hBm.mono HB.out.size))
      have HMK := Lib.hid hmk
      have HDM := Lib.hid hdm
      have HSZM : Hid (wr.heap.size < wm.heap.size ∧ wr.heap.size + 1 < wm.heap.size ∧ w.heap.size < wr.heap.size) := ⟨hmk.now.lt, hmk.row.lt, HD.out.lt⟩
      clear hwm hBm hmk hdm c4 hmm
      refine (names_any w.heap.size (leftD A dirs) wm HDM.out (by rw [← HLD.out]; exact HC.out.size _)).mono ?_; rintro e wn ⟨nv, rfl, hno, hBn⟩
      obtain ⟨na, nc, rfl⟩ := own_slice hno
      obtain ⟨N, hN⟩ : ∃ N, namesD (leftD A dirs) = N := ⟨_, rfl⟩
      rw [hN] at hno
      have HN := Lib.hid hN
      have HNO := Lib.hid hno
      have HBN := Lib.hid hBn
      have HMKN := Lib.hid (HMK.out.to (w' := wn) (T := newB w wn) (fun k hk => ⟨hk.1, Nat.lt_of_lt_of_le hk.2 hBn.size⟩) hBn.block)
      have HNL : Hid (N.length < 1000) := by
        show _ < _
        rw [← hN, namesD_length HDM.out, ← HLD.out]; exact HC.out.size _
      clear hno hBn
      rw [hN]
      clear hN
      go_wp2_with fail
      obtain ⟨BN, hBN⟩ : ∃ BN, wr.heap.size = BN := ⟨_, rfl⟩
      rw [hBN] at HMKN HSZM ⊢
      have HBW : Hid (Below w.heap.size w wn) := HBM.out.trans (HBN.out.mono HBM.out.size)
      have HLIM : Hid (w.heap.size < BN ∧ BN + 1 < wn.heap.size) := ⟨HSZM.out.2.2, Nat.lt_of_lt_of_le HSZM.out.2.1 HBN.out.size⟩
      have HLN : Hid (Dir wn w.heap.size (leftD A dirs)) := HDM.out.to (HBN.out.block _ HDM.out.lt)
      have HOKL : Hid (OkD A.file (leftD A dirs)) := by show OkD _ _; rw [← HLD.out]; exact HC.out.ok _
      clear hBN
      obtain ⟨L, hL⟩ : ∃ L, leftD A dirs = L := ⟨_, rfl⟩
      rw [hL] at HLN HOKL HN
      have HLL := Lib.hid hL
      clear hL
      go_loopw [12, 49] (fun _ s49 wr => ∃ (i : Nat) (l : List Nat) (X : FsA) (dx : Nat → Value), i ≤ N.length ∧ s49 = .int .i64 i ∧ l.length = i ∧ (l.Nodup ∧ ∀ b ∈ l, b < wr.heap.size) ∧ (∀ b ∈ l, w.heap.size ≤ b) ∧ X = crashX A L tails ((N.take i).zip l) ∧ X.created = i ∧ X.room = A.room ∧
          Mk wr (BN + 1) (newB w wr) X BN dx ∧ Maps.size X.now ≤ i ∧ (∀ k, k < wn.heap.size → k ≠ BN → k ≠ BN + 1 → wr.heap[k]? = wn.heap[k]?) ∧ Below w.heap.size w wr ∧ wn.heap.size ≤ wr.heap.size)
        (fun _ s49 _ => N.length - (intOf s49).toNat)
      case atStart => exact ⟨0, [], newA A.room, fun _ => .slice none 0 0, by omega, rfl, rfl, ⟨List.nodup_nil, fun b hb => (by cases hb)⟩, (fun b hb => by cases hb), by rw [List.take_zero]; rfl, rfl, rfl, HMKN.out, Nat.le_refl 0, fun _ _ _ _ => rfl, HBW.out, Nat.le_refl _⟩
      case round =>
        obtain ⟨j, l, X, dx, hj, rfl, hll, hnd, hlb, hX, hXc, hXr, hmk, hXs, hkeep, hB, hzz⟩ := hrel
        have HX := Lib.hid hX
        have HXC := Lib.hid hXc
        have HXS := Lib.hid hXs
        have HXR := Lib.hid hXr
        have HMK2 := Lib.hid hmk
        have HLB := Lib.hid hlb
        have HND := Lib.hid hnd
        have HLLN := Lib.hid hll
        have HKEEP := Lib.hid hkeep
        have HB2 := Lib.hid hB
        have HZZ := Lib.hid hzz
        clear hX hXc hXr hmk hXs hkeep hlb hll hzz hB hnd
        by_cases hlt : j < N.length
        · obtain ⟨s, hs⟩ : ∃ s, N[j] = s := ⟨_, rfl⟩
          have hsm : s ∈ namesD L := by rw [HN.out, ← hs]; exact List.getElem_mem _
          obtain ⟨fb, f, hget, hfb, hsl⟩ := name_file HOKL.out hsm
          have hgetL := hget
          obtain ⟨hfa, hfS, hfd⟩ := HM.out.file fb f hfb
          have hshort := HC.out.short fb f hfb
          have hnum := HC.out.num fb f hfb
          have hfn : fb < w.heap.size := hfa.1.lt
          -- the world of the round's head
          have hsame2 : ∀ W, Below wr.heap.size wr W → Below w.heap.size w W := fun W hb => HB2.out.trans (hb.mono HB2.out.size)
          have hfaW : ∀ W, Below wr.heap.size wr W → FileAt W fb (dv fb) f := fun W hb => hfa.to ((hsame2 W hb).block fb hfn) fun k cur e _ => (hsame2 W hb).block k (heap_lt e)
          have hLW : ∀ W, Below wr.heap.size wr W → Dir W w.heap.size L := fun W hb => HLN.out.to ((hb.block _ (by have := HZZ.out; have := HLN.out.lt; omega)).trans (HKEEP.out _ HLN.out.lt (by have := HLIM.out; omega) (by have := HLIM.out; omega)))
          obtain ⟨sB, hsB⟩ : ∃ sB : ByteArray, sB = ⟨s.toArray⟩ := ⟨_, rfl⟩
          have hsBs : sB.size ≤ 1000 := by rw [hsB]; show s.toArray.size ≤ 1000; simp; omega
          have hkeyB : keyL sB = .string s := by rw [hsB]; unfold keyL; simp
          have hlook : ∀ W, Below wr.heap.size wr W → (Instr.lookup 97 (.map (some w.heap.size)) (.string sB) false).run Tryz.prog W = .ok (.pointer (some ⟨fb, 0, none⟩)) W := fun W hb => by
            have := ((hLW W hb).look (s := sB) (by unfold maxLen; omega)).1
            rw [hsB, hget] at this; rw [hsB]; exact this
          have hrowW : ∀ W, Below wr.heap.size wr W → Blk W (BN + 1) 100 [.int .i64 0, .bool false, .int .i64 0, .slice none 0 0, .int .i64 X.room, .int .i64 X.created, .map (some BN), .map none, .slice none 0 0] := fun W hb => Blk.of (hb.block _ HMK2.out.row.lt) HMK2.out.row
          have hnowW : ∀ W, Below wr.heap.size wr W → Dir W BN X.now := fun W hb => HMK2.out.now.to (hb.block _ HMK2.out.now.lt)
          obtain ⟨fnum, hfnum⟩ : ∃ fnum : Nat, f.num = (fnum : Int) := ⟨f.num.toNat, by omega⟩
          obtain ⟨tl, htlv⟩ : ∃ tl, tl = tails.getD fnum 0 := ⟨_, rfl⟩
          have hatW : ∀ W, Below wr.heap.size wr W → Calls Tryz.prog 96 #[.slice va tails.length vc, .int .i64 (fnum : Int)] W fun e w' => e = .returned (.int .i64 tl) ∧ W = w' := fun W hb => by
            rw [htlv]; exact at_any _ tails fnum W (HV.out.below (hsame2 W hb)) (by omega) HTL.out
          have hcrW : ∀ W, Below wr.heap.size wr W → Calls Tryz.prog 95 #[.pointer (some ⟨fb, 0, none⟩), .int .i64 tl, .int .i64 (j : Int)] W fun e w' => ∃ nb d', e = .returned (.pointer (some ⟨nb, 0, none⟩)) ∧ wr.heap.size ≤ nb ∧
              FileAt w' nb d' (crashedF f tl j) ∧ (∀ k, d'.ownBlock = some k → wr.heap.size ≤ k) ∧ Below wr.heap.size wr w' := fun W hb =>
            (crashed_any fb (dv fb) f tl j W (hfaW W hb) hshort.1 hshort.2).mono fun e w' ⟨nb, d', h1, h2, h3, h4, h5⟩ => ⟨nb, d', h1, Nat.le_trans hb.size h2, h3, fun k hk => Nat.le_trans hb.size (h4 k hk), hb.trans (h5.mono hb.size)⟩
          -- the name's cell
          obtain ⟨x, hna, hcell⟩ : ∃ x, na = some ⟨x, 0, none⟩ ∧ wr.cell? ⟨x, j, none⟩ = some (.string sB) := by
            have hno := HNO.out
            rcases hno.2 with ⟨_, h0⟩ | ⟨x, cap, cur, hq, hge, hx, hcap, _, hcs, hxs⟩
            · omega
            · injection hq with h1 h2 h3
              refine ⟨x, h1, ?_⟩
              have hxlt := heap_lt hx
              have hxN : x ≠ BN ∧ x ≠ BN + 1 := ⟨by have := HSZM.out; omega, by have := HSZM.out; omega⟩
              have hk2 := HKEEP.out x hxlt hxN.1 hxN.2
              rw [World.cell?_of_block (w := wn) (a := ⟨x, j, none⟩) hk2, cell_of_row wn x j cur 9 (0, 0) hx, ← Array.getElem?_toList]
              have h9 : (N.map Go.Proofs.encStr)[j]? = some (.string sB) := by
                rw [List.getElem?_map, List.getElem?_eq_getElem hlt, hs, hsB]; rfl
              rw [← hxs, List.getElem?_take_of_lt (by omega)] at h9
              exact h9
          have hc0 : wr.cell? ⟨x, 0 + j, none⟩ = some (.string sB) := by rw [Nat.zero_add]; exact hcell
          have HGET := Lib.hid hget
          have HTLV := Lib.hid htlv
          have HFB := Lib.hid hfb
          have HSB := Lib.hid hsB
          have HKB := Lib.hid hkeyB
          have HFN := Lib.hid hfnum
          have HAT := Lib.hid hatW
          have HCR := Lib.hid hcrW
          have HNOW := Lib.hid hnowW
          have HS := Lib.hid hs
          have hS : ∀ W, Below wr.heap.size wr W → (Below wr.heap.size wr W ∧ W.cell? ⟨BN + 1, 6, none⟩ = some (.map (some BN)) ∧ W.cell? ⟨BN + 1, 5, none⟩ = some (.int .i64 (j : Int)) ∧
              (Instr.lookup 97 (.map (some w.heap.size)) (.string sB) false).run Tryz.prog W = .ok (.pointer (some ⟨fb, 0, none⟩)) W ∧ W.cell? ⟨fb, 0, none⟩ = some (.int .i64 (fnum : Int))) := fun W hb =>
            ⟨hb, (hrowW W hb).cell (i := 6) rfl, by have := (hrowW W hb).cell (i := 5) rfl; rw [HXC.out] at this; exact this, hlook W hb, by have := (hfaW W hb).1.cell (i := 0) rfl; rw [hfnum] at this; exact this⟩
          have HZB : Hid (Maps.size X.now < 1000000) := by show _ < _; have := HXS.out; have := HNL.out; omega
          have HPUT : Hid (∀ W nb, Below wr.heap.size wr W → ∃ w4, (Instr.mapUpdate 97 (.map (some BN)) (.string sB) (.pointer (some ⟨nb, 0, none⟩))).run Tryz.prog W = .ok () w4 ∧ Dir w4 BN (X.now.put (keyL sB) (.lit (.int .i64 (nb : Nat)))) ∧ W.grownBy w4 (some BN)) := fun W nb hb => by
            obtain ⟨w', hrun, r1, r2⟩ := World.ownsMap.update (HNOW.out W hb) law9 Tryz.underlying97 (by have := HZB.out; unfold maxLen; omega) (key9 (s := sB) (by unfold maxLen; omega)) (ptrElem_of (some nb))
            exact ⟨w', hrun, Dir.of r1, r2⟩
          have HSS := Lib.hid hS
          have HS4 : Hid (∀ W3 W, Below wr.heap.size wr W3 → W3.grownBy W (some BN) → W.cell? ⟨BN + 1, 6, none⟩ = some (.map (some BN)) ∧ W.cell? ⟨BN + 1, 5, none⟩ = some (.int .i64 (j : Int)) ∧
              (Instr.lookup 97 (.map (some w.heap.size)) (.string sB) false).run Tryz.prog W = .ok (.pointer (some ⟨fb, 0, none⟩)) W ∧ W.cell? ⟨fb, 0, none⟩ = some (.int .i64 (fnum : Int))) := fun W3 W hb hg => by
            have hlim := HLIM.out
            have hmk := HMK2.out.row.lt
            have hh := hb.size
            have hne : ∀ k, k < wr.heap.size → k ≠ BN → W.heap[k]? = W3.heap[k]? := fun k hk hk' => hg.block k (by omega) (fun e => hk' (Option.some.inj e))
            have hfn' : fb < wr.heap.size := by omega
            obtain ⟨_, h1, h2, h3, h4⟩ := hS W3 hb
            refine ⟨by rw [World.cell?_of_block (w := W3) (hne _ hmk (by simp))]; exact h1, by rw [World.cell?_of_block (w := W3) (hne _ hmk (by simp))]; exact h2, ?_, by rw [World.cell?_of_block (w := W3) (hne _ hfn' (by show fb ≠ BN; omega))]; exact h4⟩
            have hD : Dir W w.heap.size L := (hLW W3 hb).to (hne _ (by omega) (by omega))
            have := (hD.look (s := sB) (by unfold maxLen; omega)).1
            rw [hsB, hgetL] at this; rw [hsB]; exact this
          have hSd := hS wr.drew ⟨rfl, rfl, rfl, Nat.le_refl _, fun _ _ => rfl⟩
          subst hna
          have lj : (j : Int) < N.length := by omega
          clear hgetL htlv hget hfb hsB hkeyB hfnum hatW hcrW hnowW hs hS hlook hrowW hLW hfaW hsame2 hfa hfS hfd hsm hshort hnum
          go_wp2_with fail
          obtain ⟨hSd1, hSd2, hSd3, hSd4, hSd5⟩ := hSd
          go_region_held3 (fun W => W.cell? ⟨BN + 1, 6, none⟩ = some (.map (some BN)) ∧ W.cell? ⟨BN + 1, 5, none⟩ = some (.int .i64 (j : Int)) ∧
              (Instr.lookup 97 (.map (some w.heap.size)) (.string sB) false).run Tryz.prog W = .ok (.pointer (some ⟨fb, 0, none⟩)) W ∧ W.cell? ⟨fb, 0, none⟩ = some (.int .i64 (fnum : Int)))
            (first
              | exact ⟨hSd2, hSd3, hSd4, hSd5⟩
              | exact hS3
              | exact hS4
              | go_keep)
            ((first
              | (go_simp; go_at_call 96; (with_reducible refine (HAT.out _ (by assumption)).mono ?_); rintro e w' ⟨rfl, rfl⟩; simp only [])
              | (go_simp; go_at_call 95; (with_reducible refine (HCR.out _ (by assumption)).mono ?_); rintro e w3 ⟨nb, d', rfl, hnb, hfa3, hdk3, hb3⟩; obtain ⟨w4, hrun4, hd4, hg4⟩ := HPUT.out w3 nb hb3; have hS3 := (HSS.out w3 hb3).2; have hS4 := HS4.out w3 w4 hb3 hg4; simp only [])))
          all_goals
            have hz34 : w3.heap.size ≤ w4.heap.size := hg4.size
            have hz3 : wr.heap.size ≤ w3.heap.size := hb3.size
            have mk3 := HMK2.out.addFile (T := newB w w3) hb3 hfa3 hnb hdk3 (fun k hk => ⟨hk.1, Nat.lt_of_lt_of_le hk.2 hz3⟩) (fun k h1 h2 => ⟨Nat.le_trans HB2.out.size h1, h2⟩)
            have mk4 := mk3.turn hg4 hd4
            have f5 := mk4.row.frozen 5
            have hset := mk4.row.set 5 (.int .i64 ((j : Int) + 1))
            have hso : ∀ k, k ≠ BN + 1 → (w4.setCell ⟨BN + 1, 5, none⟩ (.int .i64 ((j : Int) + 1))).heap[k]? = w4.heap[k]? := fun k hk => heap_setCell_other w4 ⟨BN + 1, 5, none⟩ k _ hk
            have hszf : (w4.setCell ⟨BN + 1, 5, none⟩ (.int .i64 ((j : Int) + 1))).heap.size = w4.heap.size := by simp [World.setCell]
            have mk5 := mk4.head (w' := w4.setCell ⟨BN + 1, 5, none⟩ (.int .i64 ((j : Int) + 1))) hso (cr := (j : Int) + 1) hset
            have HMK5 : Hid (Mk (w4.setCell ⟨BN + 1, 5, none⟩ (.int .i64 ((j : Int) + 1))) (BN + 1) (newB w (w4.setCell ⟨BN + 1, 5, none⟩ (.int .i64 ((j : Int) + 1)))) { X with file := fun k => if k = nb then some (crashedF f tl j) else X.file k, now := X.now.put (keyL sB) (.lit (.int .i64 (nb : Nat))), created := (j : Int) + 1 } BN (fun k => if k = nb then d' else dx k)) :=
              mk5.to (fun k hk => ⟨hk.1, by rw [hszf]; exact Nat.lt_of_lt_of_le hk.2 hz34⟩) fun _ _ => rfl
            have hB3 : Below w.heap.size w w3 := HB2.out.trans (hb3.mono HB2.out.size)
            have hB4 : Below w.heap.size w w4 := hB3.grown hg4 hB3.size fun x hx => by cases hx; have := HLIM.out; omega
            have HB5 : Hid (Below w.heap.size w (w4.setCell ⟨BN + 1, 5, none⟩ (.int .i64 ((j : Int) + 1)))) := hB4.setCell (p := ⟨BN + 1, 5, none⟩) (by show _ ≤ BN + 1; have := HLIM.out; omega) _
            have HKP5 : Hid (∀ k, k < wn.heap.size → k ≠ BN → k ≠ BN + 1 → (w4.setCell ⟨BN + 1, 5, none⟩ (.int .i64 ((j : Int) + 1))).heap[k]? = wn.heap[k]?) := fun k hk h1 h2 =>
              (hso k h2).trans ((hg4.block k (by have := HZZ.out; omega) (fun e => h1 (Option.some.inj e))).trans ((hb3.block k (by have := HZZ.out; omega)).trans (HKEEP.out k hk h1 h2)))
            have HZ5 : Hid (wn.heap.size ≤ (w4.setCell ⟨BN + 1, 5, none⟩ (.int .i64 ((j : Int) + 1))).heap.size) := by show _ ≤ _; rw [hszf]; have := HZZ.out; omega
            have HSX : Hid (crashStep A L tails X (s, nb) = { X with file := fun k => if k = nb then some (crashedF f tl j) else X.file k, now := X.now.put (keyL sB) (.lit (.int .i64 (nb : Nat))), created := (j : Int) + 1 }) := by
              show _ = _
              have hfo : fileOf A L s = f := by unfold fileOf; rw [HGET.out]; simp [HFB.out]
              unfold crashStep
              simp only [hfo, HXC.out, HFN.out, HKB.out, HTLV.out, Int.toNat_natCast]
            have HZIP : Hid (crashX A L tails ((N.take (j + 1)).zip (l ++ [nb])) = crashStep A L tails X (s, nb)) := by
              show _ = _
              rw [List.take_succ_eq_append_getElem hlt, List.zip_append (by rw [HLLN.out]; simp; omega), HX.out]
              unfold crashX
              rw [List.foldl_append, HS.out]; rfl
            have HSZ5 : Hid (Maps.size (X.now.put (keyL sB) (.lit (.int .i64 (nb : Nat)))) ≤ j + 1) := by
              show _ ≤ _
              rw [size_put HMK2.out.now.tidy]
              have := HXS.out
              split <;> omega
            have HNBW : Hid (w.heap.size ≤ nb) := Nat.le_trans HB2.out.size hnb
            have hnbl := hfa3.1.lt
            have HND5 : Hid ((l ++ [nb]).Nodup ∧ ∀ b ∈ l ++ [nb], b < (w4.setCell ⟨BN + 1, 5, none⟩ (.int .i64 ((j : Int) + 1))).heap.size) := by
              refine ⟨List.nodup_append.2 ⟨HND.out.1, by simp, fun a ha c hc => ?_⟩, fun c hc => ?_⟩
              · obtain rfl := List.mem_singleton.1 hc
                have := HND.out.2 a ha
                omega
              · rw [hszf]
                rcases List.mem_append.1 hc with hc | hc
                · have := HND.out.2 c hc; omega
                · obtain rfl := List.mem_singleton.1 hc; omega
            clear hnbl
            obtain ⟨_, hc5, _, _⟩ := hS4
            have hwr5 : IntKind.i64.wrap ((j : Int) + 1) = j + 1 := IntWalk.i64_in _ (by have := HNL.out; omega)
            clear mk3 mk4 mk5 hset hso hszf hB3 hB4 hz34 hz3 hS3 hd4 hg4 hb3 hfa3 hdk3 hnb hrun4
            go_wp2_with fail
            go_roundw
            case rel => exact ⟨j + 1, l ++ [nb], { X with file := fun k => if k = nb then some (crashedF f tl j) else X.file k, now := X.now.put (keyL sB) (.lit (.int .i64 (nb : Nat))), created := (j : Int) + 1 }, (fun k => if k = nb then d' else dx k), by omega, by go_num, by rw [List.length_append, HLLN.out]; rfl, HND5.out, fun b hb => (List.mem_append.1 hb).elim (HLB.out b) (fun h => by obtain rfl := List.mem_singleton.1 h; exact HNBW.out), by rw [HZIP.out, HSX.out], by simp, HXR.out, HMK5.out, HSZ5.out, HKP5.out, HB5.out, HZ5.out⟩
            case measure => simp [intOf]; omega
        · obtain rfl : j = N.length := by omega
          have c6 := HMK2.out.row.cell (i := 6) rfl
          have f7 := HMK2.out.row.frozen 7
          go_wp2_with fail
          refine (mapsClone_any BN X.now wr HMK2.out.now).mono ?_; rintro e w3 ⟨rfl, hd3, hb3⟩
          have hr3 := Below.blk hb3 HMK2.out.row.lt HMK2.out.row
          have c7' := hr3.cell (i := 7) rfl
          have f7' := hr3.frozen 7
          have hset := hr3.set 7 (.map (some wr.heap.size))
          have hso : ∀ k, k ≠ BN + 1 → (w3.setCell ⟨BN + 1, 7, none⟩ (.map (some wr.heap.size))).heap[k]? = w3.heap[k]? := fun k hk => heap_setCell_other w3 ⟨BN + 1, 7, none⟩ k _ hk
          have hszf : (w3.setCell ⟨BN + 1, 7, none⟩ (.map (some wr.heap.size))).heap.size = w3.heap.size := by simp [World.setCell]
          have hlim := HLIM.out
          have hrl := HMK2.out.row.lt
          have hbase : X.count = 0 ∧ X.armed = false ∧ X.left = 0 ∧ X.plan = [] ∧ X.since = [] := by
            rw [HX.out]
            have := crashX_base A L tails ((N.take N.length).zip l) (newA A.room) ⟨rfl, rfl, rfl, rfl, rfl, rfl⟩
            exact ⟨this.1, this.2.1, this.2.2.1, this.2.2.2.1, this.2.2.2.2.1⟩
          have HFIN := Lib.hid (HMK2.out.done (w' := w3.setCell ⟨BN + 1, 7, none⟩ (.map (some wr.heap.size))) (T := newB w (w3.setCell ⟨BN + 1, 7, none⟩ (.map (some wr.heap.size)))) (bs := wr.heap.size)
            (fun k hk hkg => (hso k hkg).trans (hb3.block k hk)) (fun k hk => ⟨hk.1, by rw [hszf]; exact Nat.lt_of_lt_of_le hk.2 hb3.size⟩) hset (hd3.to (hso _ (by omega))) (Nat.le_refl _) ⟨HB2.out.size, by rw [hszf]; exact hd3.lt⟩ hbase)
          have HBF : Hid (Below w.heap.size w (w3.setCell ⟨BN + 1, 7, none⟩ (.map (some wr.heap.size)))) := (HB2.out.trans (hb3.mono HB2.out.size)).setCell (p := ⟨BN + 1, 7, none⟩) (by show _ ≤ BN + 1; omega) _
          have HCA : Hid (crashA A dirs tails l = { X with sure := X.now }) := by
            show _ = _
            unfold crashA
            rw [HLL.out, HN.out, HX.out, List.take_of_length_le (Nat.le_refl _)]
          clear hd3 hb3 hr3 hset hso hszf hbase c6 f7
          go_wp2_with fail
          go_ret
          exact ⟨BN + 1, l, rfl, by rw [HLL.out, HN.out]; exact HLLN.out, HND.out.1, HLB.out, by rw [HCA.out]; exact ⟨_, _, _, _, _, _, HFIN.out⟩, HBF.out⟩
end Go.Proofs.YtigbgajelkknbaaGreatDoor
