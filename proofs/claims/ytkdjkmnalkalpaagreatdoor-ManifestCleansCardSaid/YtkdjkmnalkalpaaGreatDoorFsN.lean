/- Package simfs: names. -/
import Derived.Test.YtkdjkmnalkalpaaGreatDoorFsC
import Derived.Test.YtkdjkmnalkalpaaGreatDoorShelf
namespace Go.Proofs.YtkdjkmnalkalpaaGreatDoor
open Go.RowKit Go.Maps Go.WideMaps
set_option maxRecDepth 100000

theorem decode_low (s : ByteArray) (i : Nat) (h : (s.get! i).toNat < 128) : Utf8.decode s i = ((s.get! i).toNat, 1) := by
  unfold Utf8.decode
  simp only [Nat.add_zero]
  rw [if_pos h]
theorem decode_high (s : ByteArray) (i : Nat) (h : ¬ (s.get! i).toNat < 128) : 128 ≤ (Utf8.decode s i).1 := by
  unfold Utf8.decode
  simp only [Nat.add_zero]
  rw [if_neg h]
  repeat' split
  all_goals first | (simp only [Utf8.runeError]; omega) | (simp only [ge_iff_le, Bool.and_eq_true, decide_eq_true_eq] at *; omega)
theorem odd_high (r : Nat) (h : 128 ≤ r) : oddB (r : Int) = true := by
  unfold oddB; simp; omega
theorem idx_iff (s : ByteArray) : ∀ (f pos : Nat), s.size ≤ pos + f → (0 ≤ Lib.idxFuncFrom (fun r => oddB (r : Int)) true s f pos ↔ ∃ i, pos ≤ i ∧ i < s.size ∧ oddB (((s.get! i).toNat : Nat) : Int) = true)
  | 0, pos, h => by
    simp only [Lib.idxFuncFrom]
    constructor
    · intro k; omega
    · rintro ⟨i, h1, h2, _⟩; omega
  | f + 1, pos, h => by
    rw [Lib.idxFuncFrom]
    by_cases hp : pos < s.size
    · rw [if_pos hp]
      by_cases ho : oddB (((s.get! pos).toNat : Nat) : Int) = true
      · have hd : oddB (((Utf8.decode s pos).1 : Nat) : Int) = true := by
          by_cases hl : (s.get! pos).toNat < 128
          · rw [decode_low s pos hl]; exact ho
          · exact odd_high _ (decode_high s pos hl)
        rw [if_pos hd]
        exact ⟨fun _ => ⟨pos, Nat.le_refl _, hp, ho⟩, fun _ => by omega⟩
      · have hl : (s.get! pos).toNat < 128 := by
          apply Decidable.byContradiction
          intro hl
          exact ho (odd_high _ (by omega))
        rw [decode_low s pos hl, if_neg ho, idx_iff s f (pos + 1) (by omega)]
        constructor
        · rintro ⟨i, h1, h2, h3⟩; exact ⟨i, by omega, h2, h3⟩
        · rintro ⟨i, h1, h2, h3⟩
          have : i ≠ pos := by rintro rfl; exact ho h3
          exact ⟨i, by omega, h2, h3⟩
    · rw [if_neg hp]
      constructor
      · intro k; omega
      · rintro ⟨i, h1, h2, _⟩; omega
def oddS (s : ByteArray) : Bool := s.data.toList.any fun b => oddB (b.toNat : Int)
theorem idx_odd (s : ByteArray) : decide (0 ≤ Lib.idxFunc (fun r => oddB (r : Int)) true s) = oddS s := by
  rw [Bool.eq_iff_iff, decide_eq_true_iff]
  unfold Lib.idxFunc
  rw [idx_iff s s.size 0 (by omega)]
  unfold oddS
  rw [List.any_eq_true]
  constructor
  · rintro ⟨i, _, h2, h3⟩
    refine ⟨s.data[i]'(by simpa using h2), by simp, ?_⟩
    have : s.get! i = s.data[i]'(by simpa using h2) := by
      show s.data[i]! = _
      rw [getElem!_pos]
    rw [← this]; exact h3
  · rintro ⟨b, hb, h⟩
    obtain ⟨i, hi, rfl⟩ := List.getElem_of_mem hb
    refine ⟨i, by omega, by simpa using hi, ?_⟩
    have : s.get! i = s.data.toList[i] := by
      show s.data[i]! = _
      rw [getElem!_pos s.data i (by simpa using hi)]; simp
    rw [this]; exact h
def nameB (s : ByteArray) : Bool := decide (1 ≤ s.size) && decide (s.size ≤ 20) && !oddS s
theorem nameB_size {s : ByteArray} (h : nameB s = true) : 1 ≤ s.size ∧ s.size ≤ 20 := by
  unfold nameB at h; simp at h; omega

theorem odd_any (s : ByteArray) (w : World) :
    Calls Tryz.prog 159 #[.string s, .func (.func 160) #[] #[]] w fun e w' => e = .returned (.bool (oddS s)) ∧ Below w.heap.size w w' := by
  have h := Tryz.strings_ContainsFunc 160 #[] (enters_of Tryz.func160 (by kernel_rfl) rfl) (fun r => oddB (r : Int)) s w
    (fun W x _ => (strange_any (x : Int) W).mono fun e w' ⟨he, hw⟩ => ⟨he, 0, hw.symm⟩)
  rw [idx_odd] at h
  exact h

set_option maxHeartbeats 2000000 in
theorem named_any (nb : Nat) (L : List ByteArray) (w : World) (hb : Blk w nb 9 (L.map Value.string)) (hl : L.length < 1000) (hs : ∀ s ∈ L, s.size ≤ 9223372036854775807) :
    Calls Tryz.prog 97 #[.slice (some ⟨nb, 0, none⟩) L.length L.length] w fun e w' => e = .returned (.bool (L.all nameB)) ∧ Below w.heap.size w w' := by
  have HS := Lib.hid hs
  have HB := Lib.hid hb
  clear hs hb
  go_enter Tryz.func97, Tryz.ntmps97
  go_wp2_with fail
  go_loopw [7] (fun s7 wr => ∃ i : Nat, i ≤ L.length ∧ s7 = .int .i64 i ∧ (L.take i).all nameB = true ∧ Below w.heap.size w wr)
    (fun s7 _ => L.length - (intOf s7).toNat)
  case atStart => exact ⟨0, by omega, rfl, rfl, Below.refl _ _⟩
  case round =>
    obtain ⟨i, hi, rfl, hall, hB⟩ := hrel
    by_cases hlt : i < L.length
    · have hbr := Below.blk hB HB.out.lt HB.out
      obtain ⟨s, hse⟩ : ∃ s, L[i] = s := ⟨_, rfl⟩
      have c := hbr.cell (i := i) (v := .string s) (by rw [List.getElem?_map, List.getElem?_eq_getElem hlt, hse]; rfl)
      have hsz := HS.out s (by rw [← hse]; exact List.getElem_mem _)
      have HT : Hid ((L.take (i + 1)).all nameB = nameB s) := by
        show _ = _
        rw [List.take_succ_eq_append_getElem hlt, List.all_append, hall, hse]; simp
      have HF : Hid (nameB s = false → L.all nameB = false) := fun h => by
        rw [List.all_eq_false]
        exact ⟨s, by rw [← hse]; exact List.getElem_mem _, by simp [h]⟩
      have HC := Lib.hid fun W => odd_any s W
      have HBB := Lib.hid hB
      have HND : Hid (nameB s = (decide (1 ≤ s.size) && decide (s.size ≤ 20) && !oddS s)) := rfl
      clear hbr hse hB hall
      by_cases h1 : s.size < 1
      · have hz : s.size = 0 := by omega
        have hbad : nameB s = false := by rw [HND.out, hz]; rfl
        have HE := Lib.hid (HF.out hbad)
        clear hbad hz
        go_wp2_with fail
        go_ret
        exact ⟨ret_bool HE.out.symm, HBB.out⟩
      · by_cases h2 : 20 < s.size
        · have hbad : nameB s = false := by rw [HND.out, show decide (s.size ≤ 20) = false by simpa using h2]; simp
          have HE := Lib.hid (HF.out hbad)
          clear hbad
          go_wp2_with fail
          go_ret
          exact ⟨ret_bool HE.out.symm, HBB.out⟩
        · cases ho : oddS s
          · have hgood : nameB s = true := by rw [HND.out, ho]; simp; omega
            rw [ho] at HC
            have HO := Lib.hid ho
            have HG := Lib.hid hgood
            clear ho hgood
            go_wp2_with fail
            refine (HC.out _).mono ?_; rintro e w2 ⟨rfl, hb2⟩
            have hB2 := HBB.out.trans (hb2.mono HBB.out.size)
            clear hb2
            go_wp2_with fail
            go_roundw
            case rel => exact ⟨i + 1, by omega, by go_num, by rw [HT.out, HG.out], hB2⟩
            case measure => simp [intOf]; omega
          · have hbad : nameB s = false := by rw [HND.out, ho]; simp
            rw [ho] at HC
            have HE := Lib.hid (HF.out hbad)
            clear hbad ho
            go_wp2_with fail
            refine (HC.out _).mono ?_; rintro e w2 ⟨rfl, hb2⟩
            have hB2 := HBB.out.trans (hb2.mono HBB.out.size)
            clear hb2
            go_wp2_with fail
            go_ret
            exact ⟨ret_bool HE.out.symm, hB2⟩
    · obtain rfl : i = L.length := by omega
      rw [List.take_of_length_le (Nat.le_refl _)] at hall
      have HA := Lib.hid hall
      clear hall
      go_wp2_with fail
      go_ret
      exact ⟨ret_bool HA.out.symm, hB⟩
end Go.Proofs.YtkdjkmnalkalpaaGreatDoor
