/- Names of segments, read back. Plain; nothing is walked. Package seglog: 'ID'. The reference of layer 4 (rubricref04): 'Name'; decimal digits. The reference of layer 4 (rubricref04): 'ID'. -/
import Derived.Test.YtkdjkmnalkalpaaGreatDoorSgF
import Derived.Lib.AtoiAll
import Derived.Lib.Strings
import Derived.Test.YtkdjkmnalkalpaaGreatDoorShelf
import Derived.Lib.AtoiAllMem
import Derived.Test.YtkdjkmnalkalpaaGreatDoorFsX
namespace Go.Proofs.YtkdjkmnalkalpaaGreatDoor
open Go.RowKit
set_option maxRecDepth 100000
set_option maxRecDepth 100000

theorem parse_append : ∀ (l r : List UInt8) (acc v : Nat), Lib.parseUint10 acc l = .ok v → Lib.parseUint10 acc (l ++ r) = Lib.parseUint10 v r
  | [], r, acc, v, h => by
    simp only [Lib.parseUint10] at h
    injection h with h
    subst h; rfl
  | c :: l, r, acc, v, h => by
    simp only [Lib.parseUint10] at h
    rw [List.cons_append]
    simp only [Lib.parseUint10]
    split at h
    · rename_i h1
      rw [if_pos h1]
      split at h
      · cases h
      · rename_i h2
        rw [if_neg h2]
        split at h
        · cases h
        · rename_i h3
          rw [if_neg h3]; exact parse_append l r _ v h
    · cases h
theorem parse_one {v : Nat} {c : UInt8} (h0 : 48 ≤ c.toNat) (h9 : c.toNat ≤ 57) (hv : v < 1000000000000000000) : Lib.parseUint10 v [c] = .ok (v * 10 + (c.toNat - 48)) := by
  simp only [Lib.parseUint10]
  rw [if_pos ⟨h0, h9⟩, if_neg (by omega), if_neg (by omega)]
theorem digit_nat (d : Nat) (hd : d < 10) : (UInt8.ofNat (48 + d)).toNat = 48 + d := by
  rw [UInt8.toNat_ofNat']; omega
theorem parse_digits (n : Nat) : n < 1000000000000000000 → Lib.parseUint10 0 (Lib.decDigits n) = .ok n := by
  induction n using Nat.strongRecOn with
  | ind n ih =>
    intro h
    rw [Lib.decDigits]
    split
    · rename_i h10
      have := digit_nat n h10
      rw [parse_one (by omega) (by omega) (by omega), this]; congr 1; omega
    · rename_i h10
      have := digit_nat (n % 10) (by omega)
      rw [parse_append _ _ _ _ (ih (n / 10) (by omega) (by omega)), parse_one (by omega) (by omega) (by omega), this]; congr 1; omega
theorem digits_all (n : Nat) : ∀ c ∈ Lib.decDigits n, 48 ≤ c.toNat ∧ c.toNat ≤ 57 := by
  induction n using Nat.strongRecOn with
  | ind n ih =>
    intro c hc
    rw [Lib.decDigits] at hc
    split at hc
    · rename_i h10
      rw [List.mem_singleton] at hc
      have := digit_nat n h10
      rw [hc]; omega
    · rename_i h10
      rcases List.mem_append.1 hc with hc | hc
      · exact ih (n / 10) (by omega) c hc
      · rw [List.mem_singleton] at hc
        have := digit_nat (n % 10) (by omega)
        rw [hc]; omega
theorem digits_ne (n : Nat) : Lib.decDigits n ≠ [] := by
  rw [Lib.decDigits]
  split <;> simp
theorem atoi_digits (n : Nat) (h : n < 1000000000000000000) : Lib.atoiAll (Lib.decDigits n) = .ok (n : Int) := by
  have hp := parse_digits n h
  have ha := digits_all n
  have hn := digits_ne n
  generalize Lib.decDigits n = l at *
  cases l with
  | nil => exact absurd rfl hn
  | cons c r =>
    have hc := ha c (by simp)
    unfold Lib.atoiAll
    simp only
    rw [if_neg (by omega)]
    unfold Lib.parseMag
    rw [if_neg hn, hp]
    simp only
    rw [if_neg (by omega), if_neg (by omega), if_neg (by omega)]
def IdOf (s : ByteArray) (k : Int) : Prop := (1 ≤ k ∧ k ≤ 2147483647 ∧ nameV k = s) ∨ (k = 0 ∧ ∀ j : Int, 1 ≤ j → j ≤ 2147483647 → nameV j ≠ s)
theorem nameV_list {j : Int} (h1 : 1 ≤ j) (h2 : j ≤ 2147483647) : (nameV j).data.toList = 115 :: 101 :: 103 :: 45 :: Lib.decDigits j.toNat := by
  unfold nameV
  rw [if_pos ⟨h1, h2⟩]
  rfl
theorem nameV_inj {i j : Int} (i1 : 1 ≤ i) (i2 : i ≤ 2147483647) (j1 : 1 ≤ j) (j2 : j ≤ 2147483647) (h : nameV i = nameV j) : i = j := by
  have e : (nameV i).data.toList = (nameV j).data.toList := by rw [h]
  rw [nameV_list i1 i2, nameV_list j1 j2] at e
  injection e with _ e
  injection e with _ e
  injection e with _ e
  injection e with _ e
  have a := atoi_digits i.toNat (by omega)
  have b := atoi_digits j.toNat (by omega)
  rw [e, b] at a
  injection a with a
  omega
def tailL (s : ByteArray) : List UInt8 := Lib.trimPrefix s.data.toList [115, 101, 103, 45]
theorem tail_name {s : ByteArray} {j : Int} (h1 : 1 ≤ j) (h2 : j ≤ 2147483647) (h : nameV j = s) : tailL s = Lib.decDigits j.toNat := by
  unfold tailL Lib.trimPrefix Lib.hasPrefix
  rw [← h, nameV_list h1 h2]
  simp
theorem idOf_none {s : ByteArray} (h : ∀ j : Int, 1 ≤ j → j ≤ 2147483647 → Lib.atoiAll (tailL s) = .ok j → nameV j ≠ s) : IdOf s 0 :=
  .inr ⟨rfl, fun j j1 j2 e => h j j1 j2 (by rw [tail_name j1 j2 e, atoi_digits _ (by omega)]; congr 1; omega) e⟩
end Go.Proofs.YtkdjkmnalkalpaaGreatDoor
namespace Go.Proofs.YtkdjkmnalkalpaaGreatDoor
open Go.RowKit
set_option maxRecDepth 100000
set_option maxRecDepth 100000

def ErrAt (w : World) (g : Nat) : Prop := ∃ ev, w.cell? ⟨g, 0, none⟩ = some ev ∧ (ev = .nilIface ∨ ∃ te pe, ev = .iface te pe)
theorem ErrAt.below {w0 w : World} {g : Nat} (h : ErrAt w0 g) (hb : Below w0.heap.size w0 w) : ErrAt w g := by
  obtain ⟨ev, hc, he⟩ := h
  exact ⟨ev, (hb.cell (p := ⟨g, 0, none⟩) (World.block_lt_of_cell? w0 _ hc)).trans hc, he⟩
structure NumL (w : World) : Prop where
  tab : Tab w
  syn : ErrAt w 1
  rng : ErrAt w 2
theorem NumL.below {w0 w : World} (h : NumL w0) (hb : Below w0.heap.size w0 w) : NumL w := ⟨h.tab.below hb, h.syn.below hb, h.rng.below hb⟩
theorem ret_id {a b : Int} {x y : Bool} (h : a = b) (k : x = y) : Ending.returned (.tuple #[.int .i64 a, .bool x]) = .returned (.tuple #[.int .i64 b, .bool y]) := by rw [h, k]
theorem codeN_zero {v : Int} (h : codeN v = 0) : 1 ≤ v ∧ v ≤ 2147483647 := by
  unfold codeN at h
  split at h
  · assumption
  · cases h
theorem str_other {a b : ByteArray} (h : a ≠ b) : (a.toList == b.toList) = false := by
  rw [beq_eq_false_iff_ne]
  intro e
  rw [ByteArray.toList_eq, ByteArray.toList_eq] at e
  exact h (ByteArray.ext (Array.toList_inj.1 e))
set_option maxHeartbeats 4000000 in
theorem id_any (s : ByteArray) (w : World) (hs : s.size ≤ 281474976710656) (hl : NumL w) :
    Calls Tryz.prog 142 #[.string s] w fun e w' => ∃ k, e = .returned (.tuple #[.int .i64 k, .bool (decide (0 < k))]) ∧ IdOf s k ∧ Below w.heap.size w w' := by
  have HTR := Lib.hid (Tryz.strings_TrimPrefix s ⟨#[115, 101, 103, 45]⟩ w)
  obtain ⟨t, ht⟩ : ∃ t : ByteArray, t = ⟨(Lib.trimPrefix s.data.toList [115, 101, 103, 45]).toArray⟩ := ⟨_, rfl⟩
  have htl : t.data.toList = tailL s := by rw [ht]; rfl
  have htz : t.size ≤ 281474976710656 := by
    have e : t.size = (tailL s).length := by rw [← htl]; simp
    rw [e]
    unfold tailL Lib.trimPrefix
    have e2 : s.data.toList.length = s.size := by simp
    split
    · rw [List.length_drop]; omega
    · omega
  have HTR2 : Hid (Calls Tryz.prog 190 #[.string s, .string ⟨#[115, 101, 103, 45]⟩] w fun e w' => e = .returned (.string t) ∧ w' = w) := by rw [ht]; exact HTR
  clear HTR ht
  have HL := Lib.hid hl
  rcases hA : Lib.atoiAll (tailL s) with v | _ | _
  · have hvb := Lib.atoiAll_bounds hA
    have HAT := Lib.hid (Tryz.strconv_Atoi_ok t (by omega) v (by rw [htl]; exact hA) w)
    have HNM := Lib.hid (fun (w1 : World) (hb : Below w.heap.size w w1) => name_any v w1 (hl.tab.below hb))
    have HNO : Hid (∀ j : Int, 1 ≤ j → j ≤ 2147483647 → Lib.atoiAll (tailL s) = .ok j → j = v) := fun j _ _ e => by rw [hA] at e; injection e with e; exact e.symm
    clear hl htl hA htz
    go_enter Tryz.func142, Tryz.ntmps142
    go_wp2_with fail
    refine HTR2.out.mono ?_; rintro e w' ⟨rfl, rfl⟩
    go_wp2_with fail
    refine HAT.out.mono ?_; rintro e w1 ⟨rfl, hw1⟩
    have hb1 : Below w'.heap.size w' w1 := by
      rcases hw1 with rfl | ⟨_, rfl⟩
      · exact Below.refl _ _
      · exact Lib.bytesWorld_below _ _ _
    have HB1 := Lib.hid hb1
    clear hw1 hb1 HAT
    go_wp2_with fail
    refine (HNM.out w1 HB1.out).mono ?_; rintro e w2 ⟨rfl, hb2⟩
    have HB2 := Lib.hid (HB1.out.trans (hb2.mono HB1.out.size))
    clear hb2 HNM
    by_cases hc : codeN v = 0
    · have hv := codeN_zero hc
      rw [hc]
      by_cases hn : nameV v = s
      · have HE : Hid (decide (0 < v) = true) := by show _ = _; simp; omega
        have HI : Hid (IdOf s v) := .inl ⟨hv.1, hv.2, hn⟩
        rw [hn]
        clear hc hn
        go_wp2_with fail
        go_ret2
        exact ⟨v, ret_id rfl HE.out.symm, HI.out, HB2.out⟩
      · have hne := str_other hn
        have HI : Hid (IdOf s 0) := idOf_none fun j j1 j2 e => by rw [HNO.out j j1 j2 e]; exact hn
        clear hc hn
        generalize nameV v = nm at *
        go_wp2_with fail
        go_ret2
        exact ⟨0, rfl, HI.out, HB2.out⟩
    · have hc1 : codeN v = 1 := (codeN_or v).resolve_left hc
      have HI : Hid (IdOf s 0) := idOf_none fun j j1 j2 e => absurd (show codeN v = 0 by rw [← HNO.out j j1 j2 e]; unfold codeN; rw [if_pos ⟨j1, j2⟩]) hc
      rw [hc1]
      clear hc hc1
      generalize nameV v = nm at *
      go_wp2_with fail
      go_ret2
      exact ⟨0, rfl, HI.out, HB2.out⟩
  · obtain ⟨ev, hev, hee⟩ := hl.syn
    have HAT := Lib.hid (Tryz.strconv_Atoi_syntax t htz (by rw [htl]; exact hA) ev w hev hee)
    have HNM := Lib.hid (fun (w1 : World) (hb : Below w.heap.size w w1) => name_any 0 w1 (hl.tab.below hb))
    have HI : Hid (IdOf s 0) := idOf_none fun j j1 j2 e => by rw [hA] at e; cases e
    clear hl htl hA htz hev hee
    go_enter Tryz.func142, Tryz.ntmps142
    go_wp2_with fail
    refine HTR2.out.mono ?_; rintro e w' ⟨rfl, rfl⟩
    go_wp2_with fail
    refine HAT.out.mono ?_; rintro e w1 ⟨N, rfl, _, _, hb1⟩
    have HB1 := Lib.hid hb1
    clear hb1 HAT
    go_wp2_with fail
    refine (HNM.out w1 HB1.out).mono ?_; rintro e w2 ⟨rfl, hb2⟩
    have HB2 := Lib.hid (HB1.out.trans (hb2.mono HB1.out.size))
    clear hb2 HNM
    go_wp2_with fail
    go_ret2
    exact ⟨0, rfl, HI.out, HB2.out⟩
  · obtain ⟨ev, hev, hee⟩ := hl.rng
    have HAT := Lib.hid (Tryz.strconv_Atoi_range t htz (by rw [htl]; exact hA) ev w hev hee)
    have hsb := Lib.atoiSat_bounds t.data.toList
    generalize Lib.atoiSat t.data.toList = sv at *
    have HNM := Lib.hid (fun (w1 : World) (hb : Below w.heap.size w w1) => name_any sv w1 (hl.tab.below hb))
    have HI : Hid (IdOf s 0) := idOf_none fun j j1 j2 e => by rw [hA] at e; cases e
    clear hl htl hA htz hev hee
    go_enter Tryz.func142, Tryz.ntmps142
    go_wp2_with fail
    refine HTR2.out.mono ?_; rintro e w' ⟨rfl, rfl⟩
    go_wp2_with fail
    refine HAT.out.mono ?_; rintro e w1 ⟨N, rfl, _, _, hb1⟩
    have HB1 := Lib.hid hb1
    clear hb1 HAT
    go_wp2_with fail
    refine (HNM.out w1 HB1.out).mono ?_; rintro e w2 ⟨rfl, hb2⟩
    have HB2 := Lib.hid (HB1.out.trans (hb2.mono HB1.out.size))
    clear hb2 HNM
    generalize nameV sv = nm at *
    generalize codeN sv = cn at *
    go_wp2_with fail
    go_ret2
    exact ⟨0, rfl, HI.out, HB2.out⟩
end Go.Proofs.YtkdjkmnalkalpaaGreatDoor
namespace Go.Proofs.YtkdjkmnalkalpaaGreatDoor
open Go.RowKit
set_option maxRecDepth 100000
set_option maxRecDepth 100000

def dgS (n : Nat) : ByteArray := ⟨(Lib.decDigits n).toArray⟩
theorem dgS_size {n : Nat} (h : n < 10000000000) : (dgS n).size ≤ 10 := by
  have := digits_len n h
  show (Lib.decDigits n).toArray.size ≤ 10
  rw [List.size_toArray]; exact this
theorem dgS_small {n : Nat} (h : n < 10) : strOfNums [48 + (n : Int)] = dgS n := by
  apply ByteArray.ext
  apply Array.toList_inj.1
  rw [strOfNums_data]
  unfold dgS
  rw [Lib.decDigits, dif_pos h]
  show [UInt8.ofNat (48 + (n : Int)).toNat] = _
  rw [show (48 + (n : Int)).toNat = 48 + n by omega]
theorem dgS_big {n : Nat} (h : ¬ n < 10) : dgS (n / 10) ++ dgS (n % 10) = dgS n := by
  apply ByteArray.ext
  rw [ByteArray.data_append]
  apply Array.toList_inj.1
  rw [Array.toList_append]
  show Lib.decDigits (n / 10) ++ Lib.decDigits (n % 10) = Lib.decDigits n
  rw [Lib.decDigits.eq_1 n, dif_neg h, Lib.decDigits.eq_1 (n % 10), dif_pos (by omega)]
set_option maxHeartbeats 2000000 in
theorem refDigits_any (n : Nat) : n < 10000000000 → ∀ w : World, Calls Tryz.prog 37 #[.int .i64 n] w fun e w' => e = .returned (.string (dgS n)) ∧ Below w.heap.size w w' := by
  induction n using Nat.strongRecOn with
  | ind n ih =>
    intro hn w
    by_cases h10 : n < 10
    · have h1 : (n : Int) < 10 := by omega
      have HE := Lib.hid (dgS_small h10)
      have hcv := Fr.one_conv w (48 + (n : Int))
      go_enter Tryz.func37, Tryz.ntmps37
      go_wp2_with fail
      go_ret
      exact ⟨by rw [← HE.out]; rfl, (Below.refl _ _).alloc (Nat.le_refl _) _⟩
    · have h1 : ¬ (n : Int) < 10 := by omega
      have i1 := Lib.hid (fun W => ih (n / 10) (by omega) (by omega) W)
      have i2 := Lib.hid (fun W => ih (n % 10) (by omega) (by omega) W)
      have HE := Lib.hid (dgS_big h10)
      have z1 := dgS_size (n := n / 10) (by omega)
      have z2 := dgS_size (n := n % 10) (by omega)
      have q1 : (n : Int).tdiv 10 = ((n / 10 : Nat) : Int) := (Int.ofNat_tdiv n 10).symm
      have q2 : (n : Int).tmod 10 = ((n % 10 : Nat) : Int) := (Int.ofNat_tmod n 10).symm
      generalize hd1 : dgS (n / 10) = d1 at *
      generalize hd2 : dgS (n % 10) = d2 at *
      generalize hn1 : n / 10 = n1 at *
      generalize hn2 : n % 10 = n2 at *
      have z3 : ¬ 9223372036854775807 < d1.size + d2.size := by omega
      clear ih
      go_enter Tryz.func37, Tryz.ntmps37
      go_wp2_with fail
      refine (i1.out _).mono ?_; rintro e w1 ⟨rfl, hb1⟩
      have HB1 := Lib.hid hb1
      go_wp2_with fail
      refine (i2.out _).mono ?_; rintro e w2 ⟨rfl, hb2⟩
      have HB2 := Lib.hid (hb1.trans (hb2.mono hb1.size))
      clear hb1 hb2
      go_wp2_with fail
      go_ret
      exact ⟨by rw [← HE.out]; rfl, HB2.out⟩
end Go.Proofs.YtkdjkmnalkalpaaGreatDoor
namespace Go.Proofs.YtkdjkmnalkalpaaGreatDoor
open Go.RowKit
set_option maxRecDepth 100000
set_option maxRecDepth 100000

theorem nameV_min {j : Int} (h1 : 1 ≤ j) (h2 : j ≤ 2147483647) : 5 ≤ (nameV j).size := by
  have e : (nameV j).size = (nameV j).data.toList.length := by simp
  rw [e, nameV_list h1 h2]
  have := digits_ne j.toNat
  have h3 : 0 < (Lib.decDigits j.toNat).length := List.length_pos_iff.2 this
  simp only [List.length_cons]; omega
end Go.Proofs.YtkdjkmnalkalpaaGreatDoor
