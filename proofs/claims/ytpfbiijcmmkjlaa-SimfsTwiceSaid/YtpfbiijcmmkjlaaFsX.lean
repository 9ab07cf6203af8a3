/- Package simfs: a name by definition; one file's further life; names that are none. -/
import Derived.Test.YtpfbiijcmmkjlaaFsW
namespace Go.Proofs.Ytpfbiijcmmkjlaa
open Go.RowKit Go.Maps Go.WideMaps

/-- Some byte is no sign of a name, among the first n. -/
theorem odd_take (s : ByteArray) (n : Nat) (h : n < s.size) (ho : (s.data.toList.take n).any (fun b => oddB (b.toNat : Int)) = false) (hx : oddB (((s.get n h).toNat : Nat) : Int) = false) :
    (s.data.toList.take (n + 1)).any (fun b => oddB (b.toNat : Int)) = false := by
  have hn : n < s.data.toList.length := by simpa using h
  rw [List.take_succ_eq_append_getElem hn, List.any_append, ho]
  simp only [List.any_cons, List.any_nil, Bool.or_false, Bool.false_or]
  exact hx
theorem odd_at (s : ByteArray) (n : Nat) (h : n < s.size) (hx : oddB (((s.get n h).toNat : Nat) : Int) = true) : oddS s = true := by
  have hn : n < s.data.toList.length := by simpa using h
  unfold oddS
  rw [List.any_eq_true]
  exact ⟨s.data.toList[n], List.getElem_mem _, hx⟩
theorem str_get (s : ByteArray) (j : Nat) (hj : j < s.size) (w : World) : (Instr.index 9 (.string s) (.int .i64 j)).run Try.prog w = .ok (.int .u8 (((s.get j hj).toNat : Nat) : Int)) w := by
  rw [run_index_string w _ _ _ _ Try.underlying9, dif_pos ⟨by omega, by omega⟩]
  rfl

set_option maxHeartbeats 2000000 in
/-- The reference's 'Good'. -/
theorem good_any (s : ByteArray) (w : World) (hsz : s.size ≤ 9223372036854775807) :
    Calls Try.prog 47 #[.string s] w fun e w' => e = .returned (.bool (nameB s)) ∧ w = w' := by
  have HND : Hid (nameB s = (decide (1 ≤ s.size) && decide (s.size ≤ 20) && !oddS s)) := rfl
  have HT := Lib.hid (odd_take s)
  have HA := Lib.hid (odd_at s)
  have HALL : Hid ((s.data.toList.take s.size).any (fun b => oddB (b.toNat : Int)) = oddS s) := by
    show _ = _
    unfold oddS
    rw [List.take_of_length_le (by simp [← ByteArray.size_data])]
  have HG := Lib.hid (str_get s)
  go_enter Try.func47, Try.ntmps47
  by_cases h1 : s.size < 1
  · have hbad : nameB s = false := by rw [HND.out, show decide (1 ≤ s.size) = false by simpa using h1]; rfl
    have HE := Lib.hid hbad
    clear hbad
    go_wp2_with fail
    go_ret
    exact ⟨ret_bool HE.out.symm, rfl⟩
  by_cases h2 : 20 < s.size
  · have hbad : nameB s = false := by rw [HND.out, show decide (s.size ≤ 20) = false by simpa using h2]; simp
    have HE := Lib.hid hbad
    clear hbad
    go_wp2_with fail
    go_ret
    exact ⟨ret_bool HE.out.symm, rfl⟩
  go_wp2_with fail
  go_loopw [3, 4] (fun s2 _ wr => ∃ i : Nat, i ≤ s.size ∧ s2 = .int .i64 i ∧ (s.data.toList.take i).any (fun b => oddB (b.toNat : Int)) = false ∧ w = wr)
    (fun s2 _ _ => s.size - (intOf s2).toNat)
  case atStart => exact ⟨0, by omega, rfl, rfl, rfl⟩
  case round =>
    obtain ⟨i, hi, rfl, hall, rfl⟩ := hrel
    by_cases hlt : i < s.size
    · have li : (i : Int) < s.size := by omega
      have hg := HG.out i hlt w
      obtain ⟨c, hc⟩ : ∃ c : Nat, (s.get i hlt).toNat = c := ⟨_, rfl⟩
      have hc255 : c ≤ 255 := by rw [← hc]; have := (s.get i hlt).toNat_lt; omega
      have hN := HT.out i hlt hall
      have hB := HA.out i hlt
      rw [hc] at hg hN hB
      have HO : Hid (oddB (c : Int) = !((decide (97 ≤ (c : Int)) && decide ((c : Int) ≤ 122)) || (decide (48 ≤ (c : Int)) && decide ((c : Int) ≤ 57)) || decide ((c : Int) = 46) || decide ((c : Int) = 45))) := rfl
      have HN := Lib.hid hN
      have HB := Lib.hid hB
      clear hN hB hall hc
      cases ho : oddB (c : Int)
      · have HNX := Lib.hid (HN.out ho)
        have hsg : (97 ≤ (c : Int) ∧ (c : Int) ≤ 122) ∨ (48 ≤ (c : Int) ∧ (c : Int) ≤ 57) ∨ (c : Int) = 46 ∨ (c : Int) = 45 := by
          have := HO.out; rw [ho] at this
          revert this; simp only [Bool.false_eq, Bool.not_eq_false', Bool.or_eq_true, Bool.and_eq_true, decide_eq_true_eq]; omega
        clear ho
        have main : ∀ W : World, W = w → True := fun _ _ => trivial
        clear main
        rcases hsg with ⟨ha, hb⟩ | ⟨ha, hb⟩ | hb | hb
        · go_wp2_with fail
          go_roundw
          case rel => exact ⟨i + 1, by omega, by go_num, HNX.out, trivial⟩
          case measure => simp [intOf]; omega
        · have hx : ¬ (97 ≤ (c : Int)) := by omega
          go_wp2_with fail
          go_roundw
          case rel => exact ⟨i + 1, by omega, by go_num, HNX.out, trivial⟩
          case measure => simp [intOf]; omega
        · obtain rfl : c = 46 := by omega
          go_wp2_with fail
          go_roundw
          case rel => exact ⟨i + 1, by omega, by go_num, HNX.out, trivial⟩
          case measure => simp [intOf]; omega
        · obtain rfl : c = 45 := by omega
          go_wp2_with fail
          go_roundw
          case rel => exact ⟨i + 1, by omega, by go_num, HNX.out, trivial⟩
          case measure => simp [intOf]; omega
      · have hbad : nameB s = false := by rw [HND.out, HB.out ho]; simp
        have HE := Lib.hid hbad
        have hsg : ¬ ((97 ≤ (c : Int) ∧ (c : Int) ≤ 122) ∨ (48 ≤ (c : Int) ∧ (c : Int) ≤ 57) ∨ (c : Int) = 46 ∨ (c : Int) = 45) := by
          have := HO.out; rw [ho] at this
          revert this; simp only [Bool.true_eq, Bool.not_eq_true', Bool.or_eq_false_iff, Bool.and_eq_false_iff, decide_eq_false_iff_not]; omega
        clear hbad ho
        have n46 : ((c : Int) == 46) = false := by rw [beq_eq_false_iff_ne]; omega
        have n45 : ((c : Int) == 45) = false := by rw [beq_eq_false_iff_ne]; omega
        by_cases q1 : 97 ≤ (c : Int) <;> by_cases q2 : (c : Int) ≤ 122 <;> by_cases q3 : 48 ≤ (c : Int) <;> by_cases q4 : (c : Int) ≤ 57 <;> first | (exfalso; omega) | skip
        all_goals
          clear hsg
          go_wp2_with fail
          go_ret
          exact ⟨ret_bool HE.out.symm, rfl⟩
    · obtain rfl : i = s.size := by omega
      have hgood : nameB s = true := by rw [HND.out, ← HALL.out, hall]; simp; omega
      have HE := Lib.hid hgood
      clear hgood hall
      go_wp2_with fail
      go_ret
      exact ⟨ret_bool HE.out.symm, rfl⟩

section
variable {w0 w w' : World} {g : Nat} {A A' : FsA}
theorem rename_own_self {s : ByteArray} {b : Nat} {f : Fil} {room : Int} {n : Nat} (h : Own w0 w g A) (hO : One A s b f room n) (hn : n < 900) :
    Calls Try.prog 23 #[.pointer (some ⟨g, 0, none⟩), .string s, .string s] w fun e w' => ∃ A', e = .returned (.int .i64 0) ∧ Own w0 w' g A' ∧ One A' s b f room (n + 2) := by
  obtain ⟨S, h1, h2, h3⟩ := h
  have hsz := hO.bound
  refine (rename_any g S A s s w h1 (hO.inv.Num (by omega)) (hO.inv.few (by omega)) (by omega) (by omega)).mono fun e w' ⟨he, hF, hK⟩ => ?_
  rw [rename_calm hO.calm hO.name hO.name hO.get] at he hF
  refine ⟨_, he, own_next h2 h3 hF hK, ⟨hO.inv.count.change ⟨hsz, b, hO.get⟩, ⟨hO.calm.a, hO.calm.p⟩, hO.name, ?_, hO.file, hO.room⟩⟩
  show ((A.now.del (keyL s)).put (keyL s) (datOf (dget A.now s))) = _
  rw [hO.get, hO.now, one_del]; rfl
theorem remove_own {s : ByteArray} {b : Nat} {f : Fil} {room : Int} {n : Nat} (h : Own w0 w g A) (hO : One A s b f room n) (hn : n < 900) :
    Calls Try.prog 25 #[.pointer (some ⟨g, 0, none⟩), .string s] w fun e w' => ∃ A', e = .returned (.int .i64 0) ∧ Own w0 w' g A' ∧ A'.now = .map [] := by
  obtain ⟨S, h1, h2, h3⟩ := h
  have hsz := hO.bound
  refine (remove_any g S A s w h1 (hO.inv.Num (by omega)) (hO.inv.few (by omega)) (by omega)).mono fun e w' ⟨he, hF, hK⟩ => ?_
  rw [remove_calm hO.calm hO.name hO.get] at he hF
  refine ⟨_, he, own_next h2 h3 hF hK, ?_⟩
  show A.now.del (keyL s) = _
  rw [hO.now, one_del]
theorem create_bad {s : ByteArray} {room : Int} (h : Own w0 w g (newA room)) (h1 : 1 ≤ room) (h2 : room ≤ 1048576) (hs : nameB s = false) (hsz : s.size ≤ 9223372036854775807) :
    Calls Try.prog 15 #[.pointer (some ⟨g, 0, none⟩), .string s] w fun e w' => e = .returned (.int .i64 7) ∧ Own w0 w' g (newA room) := by
  obtain ⟨S, k1, k2, k3⟩ := h
  refine (create_any g S (newA room) s w k1 ((Inv.new room h1 h2).Num (by omega)) hsz ⟨by show (0 : Int) ≤ 0; omega, by show (0 : Int) < _; omega⟩ (by show 0 < 1000; omega) (by show 0 < 1000; omega)).mono fun e w' ⟨b, _, he, hF, hK⟩ => ?_
  rw [show createA (newA room) s b = (newA room, 7) by unfold createA; rw [hs]; rfl] at he hF
  exact ⟨he, own_next k2 k3 hF hK⟩
theorem append_bad {s : ByteArray} {room : Int} {k1 k2 : Nat} (p : List Int) (h : Own w0 w g (newA room)) (h1 : 1 ≤ room) (h2 : room ≤ 1048576) (hs : nameB s = false) (hsz : s.size ≤ 9223372036854775807) (hp : p.length ≤ 1000) :
    Calls Try.prog 16 #[.pointer (some ⟨g, 0, none⟩), .string s, .slice (some ⟨w.heap.size, 0, none⟩) p.length p.length] (w.alloc (.cells (p.map (Value.int .u8)).toArray 5 (k1, k2))) fun e w' => e = .returned (.int .i64 7) ∧ Own w0 w' g (newA room) := by
  obtain ⟨S, m1, m2, m3⟩ := h
  have hI := Inv.new room h1 h2
  have hB : Below w.heap.size w (w.alloc (.cells (p.map (Value.int .u8)).toArray 5 (k1, k2))) := (Below.refl _ _).alloc (Nat.le_refl _) _
  have hbn : (w.alloc (.cells (p.map (Value.int .u8)).toArray 5 (k1, k2))).heap[w.heap.size]? = some (.cells (p.map (Value.int .u8)).toArray 5 (k1, k2)) := heap_alloc_new w _
  have hb : Bytes (w.alloc (.cells (p.map (Value.int .u8)).toArray 5 (k1, k2))) (.slice (some ⟨w.heap.size, 0, none⟩) p.length p.length) p := .inr (.inr ⟨w.heap.size, 0, p.length, rfl, Nat.le_refl _, (Array.getElem?_eq_some_iff.1 hbn).1, fun j v hv => by rw [Nat.zero_add, cell_of_row _ _ j _ _ _ hbn]; simpa using hv⟩)
  refine (append_any g S (newA room) s _ p _ (m1.below hB) (hI.Num (by omega)) hI.po hI.okNow hI.short (by show 0 < 1000; omega) hI.room hsz hb (by omega) (fun x hx hS => by have hx := hx.1; cases hx; have h9 : w.heap.size < w.heap.size := (m2 _ hS).2; omega)).mono fun e w' ⟨he, hF, hK⟩ => ?_
  rw [show appendA (newA room) s p = (newA room, 7) by unfold appendA; rw [findA_bad hs]] at he hF
  exact ⟨he, own_next (fun k hk => ⟨(m2 k hk).1, Nat.lt_of_lt_of_le (m2 k hk).2 hB.size⟩) (m3.trans (hB.mono m3.size)) hF hK⟩
theorem read_bad {s : ByteArray} {room : Int} (h : Own w0 w g (newA room)) (h1 : 1 ≤ room) (h2 : room ≤ 1048576) (hs : nameB s = false) (hsz : s.size ≤ 9223372036854775807) :
    Calls Try.prog 14 #[.pointer (some ⟨g, 0, none⟩), .string s] w fun e w' => ∃ v, e = .returned (.tuple #[v, .int .i64 7]) ∧ Own w0 w' g (newA room) := by
  obtain ⟨S, k1, k2, k3⟩ := h
  have hI := Inv.new room h1 h2
  refine (read_any g S (newA room) s w k1 hI.named hI.short hsz).mono fun e w' ⟨v, he, hc⟩ => ?_
  rw [show readA (newA room) s = ([], 7) by unfold readA; rw [findA_bad hs]; rfl] at he
  exact ⟨v, he, Own.below ⟨S, k1, k2, k3⟩ hc.2⟩
theorem rename_bad {s : ByteArray} {room : Int} (h : Own w0 w g (newA room)) (h1 : 1 ≤ room) (h2 : room ≤ 1048576) (hs : nameB s = false) (hsz : s.size ≤ 9223372036854775807) :
    Calls Try.prog 23 #[.pointer (some ⟨g, 0, none⟩), .string s, .string s] w fun e w' => e = .returned (.int .i64 7) ∧ Own w0 w' g (newA room) := by
  obtain ⟨S, k1, k2, k3⟩ := h
  have hI := Inv.new room h1 h2
  refine (rename_any g S (newA room) s s w k1 (hI.Num (by omega)) (hI.few (by omega)) hsz hsz).mono fun e w' ⟨he, hF, hK⟩ => ?_
  rw [show renameA (newA room) s s = (newA room, 7) by unfold renameA; rw [if_neg (by rw [hs]; simp)]] at he hF
  exact ⟨he, own_next k2 k3 hF hK⟩
theorem remove_bad {s : ByteArray} {room : Int} (h : Own w0 w g (newA room)) (h1 : 1 ≤ room) (h2 : room ≤ 1048576) (hs : nameB s = false) (hsz : s.size ≤ 9223372036854775807) :
    Calls Try.prog 25 #[.pointer (some ⟨g, 0, none⟩), .string s] w fun e w' => e = .returned (.int .i64 7) ∧ Own w0 w' g (newA room) := by
  obtain ⟨S, k1, k2, k3⟩ := h
  have hI := Inv.new room h1 h2
  refine (remove_any g S (newA room) s w k1 (hI.Num (by omega)) (hI.few (by omega)) hsz).mono fun e w' ⟨he, hF, hK⟩ => ?_
  rw [show removeA (newA room) s = (newA room, 7) by unfold removeA; rw [findA_bad hs]; rfl] at he hF
  exact ⟨he, own_next k2 k3 hF hK⟩
theorem steps_own (h : Own w0 w g A) : Calls Try.prog 32 #[.pointer (some ⟨g, 0, none⟩)] w fun e w' => e = .returned (.int .i64 A.count) ∧ w = w' := by
  obtain ⟨S, k1, _, _⟩ := h
  exact steps_any g S A w k1
end
end Go.Proofs.Ytpfbiijcmmkjlaa
