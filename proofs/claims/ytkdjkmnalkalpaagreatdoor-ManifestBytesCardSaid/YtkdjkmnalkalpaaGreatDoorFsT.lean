/- Package simfs: the names of a directory, rising. Package simfs: what a crash leaves of a file. Package simfs: 'Crash', its parts. Package simfs: 'Crash'. -/
import Derived.Test.YtkdjkmnalkalpaaGreatDoorFsL
import Derived.Test.YtkdjkmnalkalpaaGreatDoorShelfT
import Derived.Sort.KeysCollected
import Derived.Sort.OwnSorted
import Derived.Deep.RegionHeld3
namespace Go.Proofs.YtkdjkmnalkalpaaGreatDoor
open Go.RowKit Go.Maps Go.WideMaps
set_option maxRecDepth 100000

theorem strInfo : (Tryz.prog.info? 9).map (fun i => (i.zero, i.size, i.bytes)) = some (some (.string ⟨#[]⟩), 1, 16) := by kernel_rfl
def namesD (D : DataW Unit) : List (List UInt8) := (strKeys D).mergeSort leB
theorem namesD_length {w : World} {b : Nat} {D : DataW Unit} (h : Dir w b D) : (namesD D).length = Maps.size D := by
  obtain ⟨es, rfl, _⟩ := h.canon
  unfold namesD
  rw [List.length_mergeSort, size_eq]
  simp [strKeys]

set_option maxRecDepth 100000 in
set_option maxHeartbeats 4000000 in
theorem names_any (b : Nat) (D : DataW Unit) (w : World) (h : Dir w b D) (hn : Maps.size D < 100000) :
    Calls Tryz.prog 104 #[.map (some b)] w fun e w' => ∃ v, e = .returned v ∧ w'.ownsRow w.heap.size 9 1 v (namesD D).length ((namesD D).map Go.Proofs.encStr) ∧ Below w.heap.size w w' := by
  obtain ⟨i0, hi, hz0, hz1, hz2⟩ := info_parts strInfo
  have HI := Lib.hid hi
  have HZ0 := Lib.hid hz0
  have HZ1 := Lib.hid hz1
  have HZ2 := Lib.hid hz2
  have hnl := namesD_length h
  obtain ⟨sz, hsz⟩ : ∃ sz, Maps.size D = sz := ⟨_, rfl⟩
  rw [hsz] at hn hnl
  have HLEN : Hid (Dir w b D ∧ Maps.size D = sz) := ⟨h, hsz⟩
  have HNL := Lib.hid hnl
  have HN := Lib.hid hn
  clear hi hz0 hz1 hz2 hsz hnl h hn
  have hb16 : Hid (i0.bytes * sz ≤ 281474976710656) := by show _ ≤ _; rw [HZ2.out]; have := HN.out; omega
  have hb16b : Hid (sz ≤ maxLen) := by show _ ≤ _; have := HN.out; unfold maxLen; omega
  go_enter Tryz.func104, Tryz.ntmps104
  go_wp2_with (first
    | (at_len; refine wpList_len_dir rfl _ rfl b D sz rfl HLEN ?_)
    | (with_reducible refine wpList_make_own w rfl (.const (.int .i64 0)) (.tmp 6) 71 rfl w.heap.size 9 i0 (.string ⟨#[]⟩) 1 Tryz.underlying71 HI.out HZ0.out HZ1.out .i64 .i64 (sz : Int) sz rfl rfl rfl hb16.out hb16b.out (Nat.le_refl _) ?_; intro w1 hown1 hg1)
    | (at_range; refine wpList_range_own _ rfl _ 102 rfl 9 173 law9 Tryz.underlying102 _ b _ _ rfl (HLEN.out.1.to (hg1.block b HLEN.out.1.lt (by simp))) ?_; intro w0 hrg0 hg0 hs0))
  have hbl : b < w.heap.size := HLEN.out.1.lt
  have hd1 : Dir w1 b D := HLEN.out.1.to (hg1.block b hbl (by simp))
  have hB1 : Below w.heap.size w w1 := (Below.refl _ w).grown hg1 (Nat.le_refl _) fun j hj => by cases hj
  have HD1 := Lib.hid hd1
  have HOW1 := Lib.hid hown1
  have HB1 := Lib.hid hB1
  have HSE := Lib.hid HLEN.out.2
  clear hown1 hg1 hd1 hB1
  try go_frame
  have hB0 : Below w.heap.size w w0 := HB1.out.grown hg0 HB1.out.size fun j hj => by cases hj
  have hO0 : w0.ownsRow w.heap.size 9 1 (.slice (some ⟨w.heap.size, 0, none⟩) 0 sz) 0 [] := HOW1.out.kept hg0 (.inr (by simp [Value.ownBlock]))
  go_loopw [3, 4] (fun s3 _ wr => ∃ (left : Lit → Bool) (cnt : Nat) (ss : List (List UInt8)) (g : Option Addr) (c : Nat), wr.ranges Tryz.prog 9 ptrElem b w1.heap.size (Maps.size D) D left cnt ∧ s3 = .slice g ss.length c ∧
      wr.ownsRow w.heap.size 9 1 s3 ss.length (ss.map Go.Proofs.encStr) ∧ Collected D left ss ∧ ss.length + cnt ≤ sz ∧ Below w.heap.size w wr)
    (fun _ _ wr => wr.rangeLeft b w1.heap.size)
  case atStart => exact ⟨_, _, [], _, _, hrg0, rfl, hO0, Collected.start D, by simp; rw [HSE.out]; exact Nat.le_refl _, hB0⟩
  case round =>
    clear hrg0 hg0 hs0 hB0 hO0
    obtain ⟨left, cnt, ss, g, c, hrg, rfl, hO, hC, hsum, hB⟩ := hrel
    have HRG := Lib.hid hrg
    have HSUM := Lib.hid hsum
    have HB := Lib.hid hB
    have HO := Lib.hid hO
    have HC := Lib.hid hC
    clear hrg hsum hB hO hC
    go_wp2_with (first | (at_next; refine wpList_next_ranges _ rfl _ rfl 9 law9 ptrElem Go.Proofs.encStr ptrOf (fun key kl hk => by obtain ⟨x, hx, _⟩ := Maps.keyOf_str Tryz.underlying9 hk; exact ⟨x, hx⟩) (fun v y hv => by obtain ⟨x, hx, _⟩ := ptrElem_inv hv; exact ⟨x, hx⟩) b w1.heap.size _ _ _ _ rfl HRG.out ?_ ?_))
    · intro hc0 hl0
      have hperm := HC.out.perm HRG.out.owns law9 Tryz.underlying9 hl0
      have HNM : Hid (namesD D = ss.mergeSort leB) := (mergeSort_of_perm hperm).symm
      have hpl : (namesD D).length = ss.length := by rw [HNM.out, List.length_mergeSort]
      have HPL := Lib.hid hpl
      clear hperm hl0 hc0 hpl
      go_wp2_with fail
      rcases HO.out.2 with ⟨hv, h0⟩ | ⟨gb, cap, cur, hv, hbase, hb, h1, h2, h3, h4⟩
      · have hss : ss = [] := List.length_eq_zero_iff.1 h0
        subst hss
        obtain ⟨rfl, rfl⟩ : g = none ∧ c = 0 := by cases hv; exact ⟨rfl, rfl⟩
        refine (Tryz.slices_Sort_string_none none 0 _).mono ?_; rintro e w2 ⟨rfl, rfl⟩
        go_wp2_with fail
        go_ret
        refine ⟨.slice none 0 0, rfl, ?_, HB.out⟩
        rw [HPL.out, HNM.out]
        rw [show ([] : List (List UInt8)).mergeSort leB = [] by simp]
        exact World.ownsRow_nil _ _ _ _
      · obtain ⟨rfl, rfl⟩ : g = some ⟨gb, 0, none⟩ ∧ c = cap := by cases hv; exact ⟨rfl, rfl⟩
        have hsl : ss.length < 100000 := by have := HN.out; have := HSUM.out; omega
        have hcc := Tryz.slices_Sort_string gb 0 c ss wr (holds_of_block hb (by simpa using h4)) (heap_lt hb) (by omega)
        refine hcc.mono ?_; rintro e w2 ⟨rfl, nn, os, hw2⟩
        have HFO : Hid (w2.ownsRow w.heap.size 9 1 (.slice (some ⟨gb, 0, none⟩) ss.length c) ss.length ((ss.mergeSort fun x y => decide (x ≤ y)).map Go.Proofs.encStr)) := by
          show w2.ownsRow _ _ _ _ _ _
          rw [hw2]; exact ownsRow_sorted (n := nn) (os := os) (ts := ss.mergeSort fun x y => decide (x ≤ y)) (by simp) hbase hb h1 h2 h3
        have HFB : Hid (Below w.heap.size w w2) := by
          show Below _ _ _
          rw [hw2]; exact HB.out.grown (grownBy_sorted (n := nn) (os := os) (ss.mergeSort fun x y => decide (x ≤ y)).toArray) HB.out.size (fun j hj => by cases hj; exact hbase)
        clear hcc hsl hv hb h4 hw2
        go_wp2_with fail
        go_ret
        refine ⟨.slice (some ⟨gb, 0, none⟩) ss.length c, rfl, ?_, HFB.out⟩
        rw [HPL.out, HNM.out]
        exact HFO.out
    · intro x c' kl yd yp w2 cnt2 hkey hlk hv hat hrg2 hlt hg2 hs2 hen
      obtain ⟨x', ex, rfl, _⟩ := Maps.keyOf_str Tryz.underlying9 hkey
      obtain rfl : x = x' := encStr_inj ex
      have hriter := row_ne_iter HO.out HRG.out
      have hlow := row_ne_low HO.out hbl
      have hO2 := HO.out.kept hg2 (by
        by_cases hh : (Value.slice g ss.length c).ownBlock = none
        · exact .inl hh
        · exact .inr (fun e => hriter e.symm))
      have hC2 := HC.out.step hlk hat
      have hB2 : Below w.heap.size w w2 := HB.out.grown hg2 HB.out.size fun j hj => by obtain rfl := Option.some.inj hj; exact HB1.out.size
      have HO2 := Lib.hid (World.ownsRow.alloc hO2 (.cells #[Go.Proofs.encStr x] 9))
      have HOO2 := Lib.hid hO2
      have HC2 := Lib.hid hC2
      have HB2 := Lib.hid hB2
      have HRG2 := Lib.hid hrg2
      have HLT := Lib.hid hlt
      have HHI := Lib.hid hriter
      have HHL := Lib.hid hlow
      have HLM : Hid (ss.length + 1 ≤ maxLen) := by show _ ≤ _; have := HN.out; have := HSUM.out; unfold maxLen; omega
      have HLB : Hid ((ss.length + 1) * 16 ≤ 140737488355328) := by show _ ≤ _; have := HN.out; have := HSUM.out; omega
      have HON : Hid (∀ u ∈ [Go.Proofs.encStr x], u.oneCell' = true) := fun u hu => by obtain rfl := List.mem_singleton.1 hu; rfl
      have hen' : (Instr.entry (.pointer (some ⟨w1.heap.size, 0, none⟩))).run Tryz.prog w2 = .ok (.tuple #[.string ⟨x.toArray⟩, ptrOf c']) w2 := hen
      have HZB : Hid (w.heap.size ≤ w2.heap.size) := hB2.size
      clear hO2 hC2 hB2 hrg2 hlt hriter hlow hs2 hen hat hlk hv hkey ex hg2
      go_wp2_with (with_reducible refine wpList_append_own_at _ rfl (.tmp 14) (.tmp 16) 71 rfl w.heap.size 9 i0 (.string ⟨#[]⟩) 1 16 Tryz.underlying71 HI.out HZ0.out HZ1.out HZ2.out rfl (by decide) (.slice g ss.length c) ss.length (ss.map Go.Proofs.encStr) rfl HO2.out ⟨w2.heap.size, 0, none⟩ 1 1 [Go.Proofs.encStr x] rfl rfl (cell_one_new _ _ _) HON.out HLM.out HLB.out (Nat.le_trans HZB.out (by simp)) ?_)
      intro v' w3 ho3 hg3 _ _
      have hall : w2.grownBy w3 (Value.slice g ss.length c).ownBlock := ⟨hg3.os, hg3.tape, hg3.output, Nat.le_trans (by simp) hg3.size, fun k hk hne => (hg3.block k (by simp; omega) hne).trans (Below.heap_alloc _ _ k hk)⟩
      have hrg3 := HRG2.out.kept hall HHL.out HHI.out
      have hB3 : Below w.heap.size w w3 := HB2.out.grown hall HB2.out.size fun j hj => (HOO2.out.lt j hj).1
      obtain ⟨g', c3, rfl⟩ := own_slice ho3
      have ho3' : w3.ownsRow w.heap.size 9 1 (.slice g' (ss ++ [x]).length c3) (ss ++ [x]).length ((ss ++ [x]).map Go.Proofs.encStr) := by
        rw [List.length_append, List.map_append]; exact ho3
      have HO3 := Lib.hid ho3'
      have HRG3 := Lib.hid hrg3
      have HB3 := Lib.hid hB3
      clear ho3 hg3 hall hrg3 hB3 ho3'
      go_wp2_with fail
      go_roundw
      case rel => exact ⟨_, _, ss ++ [x], g', c3, HRG3.out, by rw [List.length_append]; rfl, by have := HO3.out; rw [List.length_append] at this ⊢; exact this, HC2.out, by have := HSUM.out; have := HLT.out; rw [List.length_append]; simp only [List.length_cons, List.length_nil]; omega, HB3.out⟩
      case measure => rw [HRG3.out.left_eq, HRG.out.left_eq]; exact HLT.out

set_option maxRecDepth 100000 in
set_option maxHeartbeats 1000000 in
theorem list_any (g : Nat) (S : Nat → Prop) (A : FsA) (w : World) (h : Fs w g S A) (hn : Maps.size A.now < 100000) :
    Calls Tryz.prog 36 #[.pointer (some ⟨g, 0, none⟩)] w fun e w' => ∃ v, e = .returned v ∧ w'.ownsRow w.heap.size 9 1 v (namesD A.now).length ((namesD A.now).map Go.Proofs.encStr) ∧ Below w.heap.size w w' := by
  obtain ⟨pv, bn, bs, sv, vs, dv, hM⟩ := h
  have c6 := hM.row.cell (i := 6) rfl
  have HNM := Lib.hid (names_any bn A.now w hM.now hn)
  clear hM hn
  go_enter Tryz.func36, Tryz.ntmps36
  go_wp2_with fail
  refine HNM.out.mono ?_; rintro e w1 ⟨v, rfl, ho, hB⟩
  obtain ⟨va, vc, rfl⟩ := own_slice ho
  have HO := Lib.hid ho
  clear ho
  go_wp2_with fail
  go_ret
  exact ⟨_, rfl, HO.out, hB⟩
end Go.Proofs.YtkdjkmnalkalpaaGreatDoor
namespace Go.Proofs.YtkdjkmnalkalpaaGreatDoor
open Go.RowKit Go.Maps Go.WideMaps
set_option maxRecDepth 100000

def Ints (w : World) (v : Value) (p : List Int) : Prop :=
  (v = .slice none 0 0 ∧ p = []) ∨ ∃ pb po cap, v = .slice (some ⟨pb, po, none⟩) p.length cap ∧ pb < w.heap.size ∧ w.rangeAt pb po (p.map (Value.int .i64))
theorem Ints.slice {w : World} {v : Value} {p : List Int} (h : Ints w v p) : ∃ a c, v = .slice a p.length c := by
  rcases h with ⟨rfl, rfl⟩ | ⟨pb, po, cap, rfl, _⟩
  · exact ⟨_, _, rfl⟩
  · exact ⟨_, _, rfl⟩
theorem Ints.below {w w' : World} {v : Value} {p : List Int} (h : Ints w v p) (hb : Below w.heap.size w w') : Ints w' v p := by
  rcases h with h | ⟨pb, po, cap, rfl, h3, h4⟩
  · exact Or.inl h
  · exact Or.inr ⟨pb, po, cap, rfl, Nat.lt_of_lt_of_le h3 hb.size, fun j u hu => by rw [World.cell?_of_block (w := w) (hb.block pb h3)]; exact h4 j u hu⟩
end Go.Proofs.YtkdjkmnalkalpaaGreatDoor
namespace Go.Proofs.YtkdjkmnalkalpaaGreatDoor
open Go.RowKit Go.Maps Go.WideMaps
set_option maxRecDepth 100000

theorem size_ap_le {D : DataW Unit} (h : Maps.Tidy D) (c : Chg) : Maps.size (c.ap D) ≤ Maps.size D + 1 := by
  cases c with
  | create n b => show Maps.size (D.put _ _) ≤ _; rw [size_put h]; split <;> omega
  | rename a b =>
    show Maps.size ((D.del _).put _ _) ≤ _
    rw [size_put (h.del _)]
    have := size_del (k := keyL a) h
    split <;> omega
  | remove a => show Maps.size (D.del _) ≤ _; have := size_del (k := keyL a) h; omega

structure Mk (w : World) (g : Nat) (S : Nat → Prop) (X : FsA) (bn : Nat) (dv : Nat → Value) : Prop where
  row : Blk w g 105 [.int .i64 0, .bool false, .int .i64 0, .slice none 0 0, .int .i64 X.room, .int .i64 X.created, .map (some bn), .map none, .slice none 0 0]
  gS : S g
  now : Dir w bn X.now
  nS : S bn
  file : ∀ b f, X.file b = some f → FileAt w b (dv b) f ∧ S b ∧ ∀ k, (dv b).ownBlock = some k → S k
  apart : ∀ b b', b ≠ b' → (X.file b).isSome = true → (X.file b').isSome = true → ∀ k, (dv b).ownBlock = some k → (dv b').ownBlock ≠ some k
section
variable {w w' : World} {g : Nat} {S T : Nat → Prop} {X : FsA} {bn : Nat} {dv : Nat → Value}
theorem Mk.to (h : Mk w g S X bn dv) (hT : ∀ k, S k → T k) (hs : ∀ k, k < w.heap.size → w'.heap[k]? = w.heap[k]?) : Mk w' g T X bn dv where
  row := Blk.of (hs _ h.row.lt) h.row
  gS := hT _ h.gS
  now := h.now.to (hs _ h.now.lt)
  nS := hT _ h.nS
  file := fun b f e => by
    obtain ⟨h1, h2, h3⟩ := h.file b f e
    exact ⟨h1.to (hs b h1.1.lt) fun k cur e _ => hs k (heap_lt e), hT _ h2, fun k o => hT _ (h3 k o)⟩
  apart := h.apart
end
end Go.Proofs.YtkdjkmnalkalpaaGreatDoor
namespace Go.Proofs.YtkdjkmnalkalpaaGreatDoor
open Go.RowKit Go.Maps Go.WideMaps
set_option maxRecDepth 100000

def preD (A : FsA) (i : Nat) : DataW Unit := (A.since.take i).foldl Chg.ap A.sure
theorem name_file {fl : Nat → Option Fil} {L : DataW Unit} (h : OkD fl L) {s : List UInt8} (hs : s ∈ namesD L) : ∃ b f, dget L ⟨s.toArray⟩ = some b ∧ fl b = some f ∧ s.length ≤ 20 := by
  obtain ⟨es, rfl, hp⟩ := h
  unfold namesD at hs
  rw [List.mem_mergeSort] at hs
  obtain ⟨p, hpm, hps⟩ := List.mem_map.1 hs
  obtain ⟨s', _, _, h1, h2, _, _⟩ := hp p hpm
  have hse : s = s'.data.toList := by rw [← hps, h1]; rfl
  have hkey : keyL ⟨s.toArray⟩ = Lit.string s := by unfold keyL; simp
  cases hf : es.find? (fun p => p.1.sameKey (keyL ⟨s.toArray⟩)) with
  | none =>
    have := List.find?_eq_none.1 hf p hpm
    rw [hkey, h1] at this
    simp [keyL, Lit.sameKey, hse] at this
  | some q =>
    obtain ⟨_, b, f, _, _, h3, h4⟩ := hp q (List.mem_of_find?_eq_some hf)
    refine ⟨b, f, ?_, h4, by rw [hse]; simpa using h2⟩
    unfold dget DataW.atKey
    simp [hf, h3]

end Go.Proofs.YtkdjkmnalkalpaaGreatDoor
