/- Package frame: its small functions: eight moves, the table, a number's bytes, a kind. -/
import Derived.Test.YtpfbiijcmmkjlaaDoorBy
import Derived.Test.YtpfbiijcmmkjlaaDoorCrc
namespace Go.Proofs.YtpfbiijcmmkjlaaDoor.Fr
open Go.RowKit

set_option maxHeartbeats 1000000 in
theorem moved_any (n : Nat) (hn : n < 4294967296) (w : World) :
    Calls Tryd.prog 65 #[.int .u32 (n : Int)] w fun e w' => e = .returned (.int .u32 (m8 n : Nat)) ∧ w = w' := by
  go_enter Tryd.func65, Tryd.ntmps65
  go_wp2
  go_loop [0, 4] (fun s0 s4 => ∃ k : Nat, k ≤ 8 ∧ s4 = .int .i64 k ∧ s0 = .int .u32 (mv k n : Nat)) (fun _ s4 => 8 - (intOf s4).toNat)
  case atStart => exact ⟨0, by omega, rfl, rfl⟩
  case round =>
    obtain ⟨k, hk, rfl, rfl⟩ := hrel
    have hm := mv_lt hn k
    have HN : Hid (mv (k + 1) n = m1 (mv k n)) := rfl
    by_cases hlt : k < 8
    · have li : (k : Int) < 8 := by omega
      generalize mv k n = m at *
      have hd : m / 2 < 4294967296 := by omega
      by_cases ho : m % 2 = 1
      · have ha : bits .and .u32 (m : Int) 1 = 1 := by rw [and_one m hm, ho]; rfl
        have HX : Hid (bits .xor .u32 ((m : Int) / 2) 2197175160 = ((m1 m : Nat) : Int)) := by
          show _ = _
          have := xor_poly (m / 2) hd
          unfold m1; rw [if_pos ho, ← this]; rfl
        clear ho hd hm
        go_wp2
        go_round
        case rel => exact ⟨k + 1, by omega, by go_num, by rw [HN.out, ← HX.out]⟩
        case measure => simp [intOf]; omega
      · have ha : bits .and .u32 (m : Int) 1 = 0 := by rw [and_one m hm]; simp; omega
        have HX : Hid ((m : Int) / 2 = ((m1 m : Nat) : Int)) := by
          show _ = _
          unfold m1; rw [if_neg ho]; rfl
        clear ho hd hm
        go_wp2
        go_round
        case rel => exact ⟨k + 1, by omega, by go_num, by rw [HN.out, ← HX.out]⟩
        case measure => simp [intOf]; omega
    · obtain rfl : k = 8 := by omega
      go_wp2
      go_ret
      exact ⟨rfl, rfl⟩

/-- The table's cells. -/
def tabI : List Int := (List.range 256).map fun i => ((m8 i : Nat) : Int)
theorem tabI_length : tabI.length = 256 := by simp [tabI]
theorem tabI_at (i : Nat) (h : i < 256) : (tabI.map (Value.int .u32))[i]? = some (.int .u32 ((m8 i : Nat) : Int)) := by
  unfold tabI
  rw [List.getElem?_map, List.getElem?_map, List.getElem?_range h]; rfl
theorem tabI_take (i : Nat) (h : i < 256) : tabI.take (i + 1) = tabI.take i ++ [((m8 i : Nat) : Int)] := by
  rw [List.take_succ_eq_append_getElem (by rw [tabI_length]; exact h)]
  congr 2
  simp [tabI]
def zeros256 : List Value := fill 256 (.int .u32 0) []
theorem zeroTab (w : World) : (zeroValue 119).run Tryd.prog w = .ok (.agg zeros256.toArray) w :=
  (zero_of_info (P := Tryd.prog) (t := 119) (v := .agg zeros256.toArray) (n := 256) (by kernel_rfl)).1 w

set_option maxHeartbeats 1000000 in
theorem newTable_any (w : World) :
    Calls Tryd.prog 45 #[] w fun e w' => e = .returned (.pointer (some ⟨w.heap.size, 0, none⟩)) ∧ Blk w' w.heap.size 119 (tabI.map (Value.int .u32)) ∧ Below w.heap.size w w' := by
  have hz0 := zeroTab
  go_enter Tryd.func45, Tryd.ntmps45
  go_upto_region 2 with fail
  clear hz0
  refine wp_world fun wz hwz => ?_
  have hz : Blk wz w.heap.size 119 (fill 256 (.int .u32 0) ((tabI.take 0).map (Value.int .u32))) := by rw [hwz]; exact Blk.new w 119 zeros256
  have hb : Below w.heap.size w wz := by rw [hwz]; exact (Below.refl _ _).alloc (Nat.le_refl _) _
  clear hwz
  go_wp2_with fail
  go_loopw [2, 3] (fun _ s3 wr => ∃ i : Nat, i ≤ 256 ∧ s3 = .int .i64 i ∧ Blk wr w.heap.size 119 (fill 256 (.int .u32 0) ((tabI.take i).map (Value.int .u32))) ∧ Below w.heap.size w wr) (fun _ s3 _ => 256 - (intOf s3).toNat)
  case atStart => exact ⟨0, by omega, rfl, hz, hb⟩
  case round =>
    clear hz hb
    obtain ⟨i, hi, rfl, hz, hb⟩ := hrel
    by_cases hlt : i < 256
    · have li : (i : Int) < 256 := by omega
      have hl : ((tabI.take i).map (Value.int .u32)).length = i := by rw [List.length_map, List.length_take, tabI_length]; omega
      have cn : wr.cell? ⟨w.heap.size, i, none⟩ = some (.int .u32 0) := by
        refine hz.cell ?_
        have := fill_next (n := 256) (z := .int .u32 0) (vs := (tabI.take i).map (Value.int .u32)) (by rw [hl]; exact hlt)
        rw [hl] at this; exact this
      have cf := hz.frozen i
      have HST : Hid ((fill 256 (.int .u32 0) ((tabI.take i).map (Value.int .u32))).set i (.int .u32 ((m8 i : Nat) : Int)) = fill 256 (.int .u32 0) ((tabI.take (i + 1)).map (Value.int .u32))) := by
        show _ = _
        have := fill_set (n := 256) (z := .int .u32 0) (v := .int .u32 ((m8 i : Nat) : Int)) (vs := (tabI.take i).map (Value.int .u32)) (by rw [hl]; exact hlt)
        rw [hl] at this
        rw [this, tabI_take i hlt, List.map_append]; rfl
      clear hl
      go_wp2_with fail
      refine (moved_any i (by omega) _).mono ?_; rintro e w' ⟨rfl, rfl⟩
      go_wp2_with fail
      go_roundw
      case rel => exact ⟨i + 1, by omega, by go_num, by rw [← HST.out]; exact hz.set _ _, hb.setCell (Nat.le_refl _) _⟩
      case measure => simp [intOf]; omega
    · obtain rfl : i = 256 := by omega
      rw [List.take_of_length_le (by rw [tabI_length]; omega), fill_full (by rw [List.length_map, tabI_length])] at hz
      go_wp2_with fail
      go_ret
      exact ⟨rfl, hz, hb⟩

/-- A number's bytes, the lowest first. -/
def fourI (n : Int) : List Int := [n % 256, n / 256 % 256, n / 65536 % 256, n / 16777216 % 256]
theorem fourI_byt (n : Int) : Byt (fourI n) := by
  intro z hz
  simp only [fourI, List.mem_cons, List.not_mem_nil, or_false] at hz
  omega
def zeros4 : List Value := fill 4 (.int .u8 0) []
theorem zeroFour (w : World) : (zeroValue 95).run Tryd.prog w = .ok (.agg #[.int .u8 0, .int .u8 0, .int .u8 0, .int .u8 0]) w :=
  (zero_of_info (P := Tryd.prog) (t := 95) (v := .agg #[.int .u8 0, .int .u8 0, .int .u8 0, .int .u8 0]) (n := 4) (by kernel_rfl)).1 w

set_option maxHeartbeats 1000000 in
theorem bytesOf_any (n : Int) (w : World) :
    Calls Tryd.prog 42 #[.int .u32 n] w fun e w' => e = .returned (.agg ((fourI n).map (Value.int .u8)).toArray) ∧ Below w.heap.size w w' := by
  go_enter Tryd.func42, Tryd.ntmps42
  go_wp2_with fail
  refine wp_world fun wz hwz => ?_
  have hr : Blk wz w.heap.size 95 zeros4 := by rw [hwz]; exact (Blk.new w 95 zeros4).alloc _
  have hz : Blk wz (w.heap.size + 1) 95 (fill 4 (.int .u8 0) (((fourI n).take 0).map (Value.int .u8))) := by
    rw [hwz]
    have := Blk.new (w.alloc (.cells zeros4.toArray 95)) 95 zeros4
    rw [World.size_alloc] at this; exact this
  have hb : Below w.heap.size w wz := by rw [hwz]; exact ((Below.refl _ _).alloc (Nat.le_refl _) _).alloc (by simp) _
  clear hwz
  go_loopw [4, 5] (fun _ s5 wr => ∃ i : Nat, i ≤ 4 ∧ s5 = .int .i64 i ∧ Blk wr w.heap.size 95 zeros4 ∧ Blk wr (w.heap.size + 1) 95 (fill 4 (.int .u8 0) (((fourI n).take i).map (Value.int .u8))) ∧ Below w.heap.size w wr) (fun _ s5 _ => 4 - (intOf s5).toNat)
  case atStart => exact ⟨0, by omega, rfl, hr, hz, hb⟩
  case round =>
    clear hr hz hb
    obtain ⟨i, hi, rfl, hr, hz, hb⟩ := hrel
    by_cases hlt : i < 4
    · have hl : (((fourI n).take i).map (Value.int .u8)).length = i := by rw [List.length_map, List.length_take]; show min i 4 = i; omega
      have cn : wr.cell? ⟨w.heap.size + 1, i, none⟩ = some (.int .u8 0) := by
        refine hz.cell ?_
        have := fill_next (n := 4) (z := .int .u8 0) (vs := ((fourI n).take i).map (Value.int .u8)) (by rw [hl]; exact hlt)
        rw [hl] at this; exact this
      have cf := hz.frozen i
      clear hl
      rcases (by omega : i = 0 ∨ i = 1 ∨ i = 2 ∨ i = 3) with rfl | rfl | rfl | rfl
      all_goals
        have hz' := fun (k : Nat) (v : Value) => hz.set k v
        have hr' := fun o v => hr.set_other (a := ⟨w.heap.size + 1, o, none⟩) (by show w.heap.size ≠ w.heap.size + 1; omega) v
        have hb' := fun o v => hb.setCell (p := ⟨w.heap.size + 1, o, none⟩) (Nat.le_succ _) v
        have HZ := Lib.hid hz'
        have HR := Lib.hid hr'
        have HB := Lib.hid hb'
        clear hi hlt hz' hr' hb' hz hr hb
        go_wp2_with fail
        go_roundw
      case rel => exact ⟨1, by omega, rfl, HR.out _ _, HZ.out 0 _, HB.out _ _⟩
      case measure => simp [intOf]
      case rel => exact ⟨2, by omega, rfl, HR.out _ _, HZ.out 1 _, HB.out _ _⟩
      case measure => simp [intOf]
      case rel => exact ⟨3, by omega, rfl, HR.out _ _, HZ.out 2 _, HB.out _ _⟩
      case measure => simp [intOf]
      case rel => exact ⟨4, by omega, rfl, HR.out _ _, HZ.out 3 _, HB.out _ _⟩
      case measure => simp [intOf]
    · obtain rfl : i = 4 := by omega
      rw [List.take_of_length_le (show (fourI n).length ≤ 4 from Nat.le_refl 4), fill_full (show ((fourI n).map (Value.int .u8)).length = 4 from rfl)] at hz
      obtain ⟨O, hO⟩ : ∃ O : List Value, O = (fourI n).map (Value.int .u8) := ⟨_, rfl⟩
      have hOl : O.toArray.size = 4 := by rw [hO]; rfl
      have hO1 : O.toArray.all (·.oneCell') = true := by rw [hO]; exact all_oneCell_toArray (ones_int _ _)
      rw [← hO] at hz
      have HO := Lib.hid hO
      clear hO hlt hi
      go_wp2_with (first
        | ((with_reducible refine wpList_load_row rfl 95 (.tmp 3) rfl (w.heap.size + 1) ?_ 95 O.toArray (0, 0) _ ?_ Tryd.underlying95 rfl ?_ ?_); (exact rfl); (exact hz); (rw [hOl]; kernel_rfl))
        | ((with_reducible refine wpList_store_row rfl 95 (.tmp 2) (.tmp 16) rfl w.heap.size O.toArray ?_ ?_ 95 zeros4.toArray ?_ ?_ ?_ ?_ ?_); (exact rfl); (exact rfl); (exact hr); (rw [hOl]; kernel_rfl); (rw [hOl]; rfl); (exact hO1)))
      exact bodyPost_ret (v := .agg O.toArray) (results_cell_row rfl _ _ _ 95 O.toArray (0, 0) _ rfl (hr.setRow (cs' := O)) Tryd.underlying95 rfl (by rw [hOl]; kernel_rfl)) rfl ⟨by rw [HO.out], Below.setRow hb (Nat.le_refl _) _⟩
end Go.Proofs.YtpfbiijcmmkjlaaDoor.Fr
