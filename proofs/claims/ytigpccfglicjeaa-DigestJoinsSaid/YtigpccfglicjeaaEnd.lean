/- The digest of all bytes that were added: 'end'. -/
import Derived.Test.YtigpccfglicjeaaAdd
namespace Go.Proofs.Ytigpccfglicjeaa
open Go.RowKit

def bytesI (x : Int) : List Int := [x / 16777216 % 256, x / 65536 % 256, x / 256 % 256, x % 256]
def zerosI (n : Nat) : List Int := List.replicate n 0
/-- The state when the padding and the length were added. -/
def padI (r : List Int) (s : SS) : SS :=
  let s1 := feed r s [128]
  let s2 := feed r s1 (zerosI ((120 - s1.n % 64) % 64))
  feed r (feed r s2 (bytesI ((s.n : Int) * 8 / 4294967296))) (bytesI ((s.n : Int) * 8))
def endI (r : List Int) (s : SS) : List Int := (padI r s).h.flatMap bytesI

theorem zerosI_pre (z n j : Nat) (v : Value) (hz : z ≤ n) (hv : ((zerosI z).map (Value.int .u8))[j]? = some v) : ((zerosI n).map (Value.int .u8))[0 + j]? = some v := by
  simp only [zerosI, List.map_replicate, List.getElem?_replicate, Nat.zero_add] at *
  by_cases hj : j < z
  · rw [if_pos hj] at hv; rw [if_pos (by omega)]; exact hv
  · rw [if_neg hj] at hv; cases hv

theorem fill_over {n : Nat} {z : Value} {vs b : List Value} (h : vs.length + b.length ≤ n) : over (fill n z vs) vs.length b = fill n z (vs ++ b) := by
  unfold fill
  rw [show n - vs.length = b.length + (n - (vs ++ b).length) by simp; omega, ← List.replicate_append_replicate, ← List.append_assoc, over_mid _ _ _ _ (by simp)]
theorem flat_length (l : List Int) : (l.flatMap bytesI).length = 4 * l.length := by
  induction l with
  | nil => rfl
  | cons a l ih => rw [List.flatMap_cons, List.length_append, ih]; simp [bytesI]; omega
theorem flat_take (l : List Int) (j : Nat) (h : j < l.length) : (l.take (j + 1)).flatMap bytesI = (l.take j).flatMap bytesI ++ bytesI (l.getD j 0) := by
  rw [List.take_succ_eq_append_getElem h, List.flatMap_append, List.getD_eq_getElem?_getD, List.getElem?_eq_getElem h]; simp
/-- The digest's bytes while j words have been written. -/
def outAt (h : List Int) (j : Nat) : List Value := fill 32 (.int .u8 0) (((h.take j).flatMap bytesI).map (Value.int .u8))
theorem outAt_step (h : List Int) (j : Nat) (hh : h.length = 8) (hj : j < 8) : over (outAt h j) (4 * j) ((bytesI (h.getD j 0)).map (Value.int .u8)) = outAt h (j + 1) := by
  unfold outAt
  have hl : (((h.take j).flatMap bytesI).map (Value.int .u8)).length = 4 * j := by rw [List.length_map, flat_length, List.length_take]; omega
  rw [flat_take h j (by omega), List.map_append, ← fill_over (by rw [hl]; simp [bytesI]; omega), hl]
theorem outAt_length (h : List Int) (j : Nat) (hh : h.length = 8) : (outAt h j).length = 32 := by
  unfold outAt; exact fill_length (by rw [List.length_map, flat_length, List.length_take]; omega)
theorem outAt_done (h : List Int) (hh : h.length = 8) : outAt h 8 = (h.flatMap bytesI).map (Value.int .u8) := by
  unfold outAt
  rw [List.take_of_length_le (by omega), fill_full (by rw [List.length_map, flat_length, hh])]

set_option maxHeartbeats 2000000 in
theorem end_any (g : Nat) (r : List Int) (s : SS) (w : World) (hs : St w g s.h r s.b s.n) (hn : s.n < 67108864) :
    Calls Try.prog 21 #[.pointer (some ⟨g, 0, none⟩)] w fun e w' =>
      e = .returned (.agg ((endI r s).map (Value.int .u8)).toArray) ∧ (endI r s).length = 32 ∧ But w.heap.size g w w' := by
  have ct := hs.tot
  have hlt := hs.lt
  obtain ⟨n, hnS⟩ : ∃ n, n = s.n := ⟨_, rfl⟩
  rw [← hnS] at ct hn
  have HN := Lib.hid hnS; clear hnS
  go_enter Try.func21, Try.ntmps21
  go_wp2_with fail
  refine calls_world fun wa hwa => ?_
  have hza : wa.heap.size = w.heap.size + 1 + 1 := by rw [hwa]; simp
  have hsa : St wa g s.h r s.b s.n := by rw [hwa]; exact (hs.alloc _).alloc _
  have hka : Blk wa (w.heap.size + 1) 5 ([128].map (Value.int .u8)) := by
    rw [hwa]
    have := Blk.new (w.alloc (.cells ((zerosI 32).map (Value.int .u8)).toArray 25)) 5 ([128].map (Value.int .u8))
    rw [World.size_alloc] at this; exact this
  have hra : Blk wa w.heap.size 25 ((zerosI 32).map (Value.int .u8)) := by rw [hwa]; exact (Blk.new w 25 ((zerosI 32).map (Value.int .u8))).alloc _
  have hBa : But w.heap.size g w wa := by rw [hwa]; exact ((But.refl _ _ _).alloc (Nat.le_refl _) _).alloc (by simp) _
  clear hwa ct hs
  refine (add_cells g r s (w.heap.size + 1) 0 1 1 [128] rfl wa hsa (by rw [← HN.out]; omega) (by omega) (by omega) (hka.range 0 _ fun j v hv => by rw [Nat.zero_add]; exact hv)).mono ?_
  rintro e w1 ⟨rfl, hs1, hb1⟩
  have hn1 : (feed r s [128]).n = n + 1 := by rw [feed_n, HN.out]; rfl
  have hr1 := hb1.blk (by omega) (by omega) hra
  have hB1 := hBa.trans (hb1.mono (by omega))
  have hz1 := hb1.size
  have HP1 : Hid ((padI r s).h = (feed r (feed r (feed r (feed r s [128]) (zerosI ((120 - (feed r s [128]).n % 64) % 64))) (bytesI ((s.n : Int) * 8 / 4294967296))) (bytesI ((s.n : Int) * 8))).h) := rfl
  clear hsa hka hra hBa hb1
  generalize feed r s [128] = s1 at *
  rw [hn1] at HP1
  have ct1 := hs1.tot
  rw [hn1] at ct1
  have HN1 := Lib.hid hn1; clear hn1
  have hlt1 := hs1.lt
  obtain ⟨k, hk⟩ : ∃ k : Nat, k = (n + 1) % 64 := ⟨_, rfl⟩
  obtain ⟨z, hz⟩ : ∃ z : Nat, z = (120 - (n + 1) % 64) % 64 := ⟨_, rfl⟩
  rw [← hz] at HP1
  have hk64 : k < 64 := by omega
  have hz64 : z < 64 := by omega
  have hkI : ((n + 1 : Nat) : Int) % 64 = (k : Int) := by omega
  have hzI : (120 - (k : Int)) % 64 = (z : Int) := by omega
  have zI : (z : Int) ≤ 64 := by omega
  generalize hn1 : n + 1 = n1 at *
  have hn1' : n1 < 67108865 := by omega
  have HN11 := Lib.hid hn1
  clear hk hz hn1
  go_wp2_with fail
  refine calls_world fun wb hwb => ?_
  have hsb : St wb g s1.h r s1.b s1.n := by rw [hwb]; exact hs1.alloc _
  have hkb : Blk wb w1.heap.size 50 ((zerosI 64).map (Value.int .u8)) := by rw [hwb]; exact Blk.new w1 50 ((zerosI 64).map (Value.int .u8))
  have hrb : Blk wb w.heap.size 25 ((zerosI 32).map (Value.int .u8)) := by rw [hwb]; exact hr1.alloc _
  have hzb : w1.heap.size < wb.heap.size := hkb.lt
  have hBb : But w.heap.size g w wb := by rw [hwb]; exact hB1.alloc (by omega) _
  clear hwb hs1 hr1 hB1 ct1
  refine (add_cells g r s1 w1.heap.size 0 64 z (zerosI z) (by simp [zerosI]) wb hsb (by rw [HN1.out]; omega) (by omega) (by omega) (hkb.range 0 _ fun j v hv => zerosI_pre z 64 j v (by omega) hv)).mono ?_
  rintro e w2 ⟨rfl, hs2, hb2⟩
  have hn2 : (feed r s1 (zerosI z)).n = n1 + z := by rw [feed_n, HN1.out]; simp [zerosI]
  have hr2 := hb2.blk (by omega) (by omega) hrb
  have hB2 := hBb.trans (hb2.mono (by omega))
  have hz2 := hb2.size
  clear hsb hkb hrb hBb hb2
  generalize feed r s1 (zerosI z) = s2 at *
  have HN2 := Lib.hid hn2; clear hn2
  have hlt2 := hs2.lt
  go_wp2_with fail
  refine (bytesOf_any _ _).mono ?_; rintro e w3 ⟨rfl, hb3⟩
  go_wp2_with fail
  refine (bytesOf_any _ _).mono ?_; rintro e w4 ⟨rfl, hb4⟩
  have hs4 := (hs2.below hb3 hlt2).below hb4 (by have := hb3.size; omega)
  have hr4 := Below.blk hb4 (by have := hb3.size; omega) (Below.blk hb3 (by omega) hr2)
  have hB4 := (hB2.trans (But.of_below (hb3.mono (by omega)))).trans (But.of_below (hb4.mono (by have := hb3.size; omega)))
  have hz4 : w2.heap.size ≤ w4.heap.size := by have := hb3.size; have := hb4.size; omega
  clear hb3 hb4 hs2 hr2 hB2
  go_wp2_with fail
  refine calls_world fun wc hwc => ?_
  have hzc : wc.heap.size = w4.heap.size + 1 + 1 := by rw [hwc]; simp
  have hsc : St wc g s2.h r s2.b s2.n := by rw [hwc]; exact (hs4.alloc _).alloc _
  have hk1 : Blk wc w4.heap.size 62 ((bytesI ((n : Int) * 8 / 4294967296)).map (Value.int .u8)) := by
    rw [hwc]; exact (Blk.new w4 62 ((bytesI ((n : Int) * 8 / 4294967296)).map (Value.int .u8))).alloc _
  have hk2 : Blk wc (w4.heap.size + 1) 62 ((bytesI ((n : Int) * 8)).map (Value.int .u8)) := by
    rw [hwc]
    have := Blk.new (w4.alloc (.cells ((bytesI ((n : Int) * 8 / 4294967296)).map (Value.int .u8)).toArray 62)) 62 ((bytesI ((n : Int) * 8)).map (Value.int .u8))
    rw [World.size_alloc] at this; exact this
  have hrc : Blk wc w.heap.size 25 ((zerosI 32).map (Value.int .u8)) := by rw [hwc]; exact (hr4.alloc _).alloc _
  have hBc : But w.heap.size g w wc := by rw [hwc]; exact (hB4.alloc (by omega) _).alloc (by simp; omega) _
  clear hwc hs4 hr4 hB4
  refine (add_cells g r s2 w4.heap.size 0 4 4 (bytesI ((n : Int) * 8 / 4294967296)) rfl wc hsc (by rw [HN2.out]; omega) (by omega) (by omega) (hk1.range 0 _ fun j v hv => by rw [Nat.zero_add]; exact hv)).mono ?_
  rintro e w5 ⟨rfl, hs5, hb5⟩
  have hn5 : (feed r s2 (bytesI ((n : Int) * 8 / 4294967296))).n = n1 + z + 4 := by rw [feed_n, HN2.out]; rfl
  have hr5 := hb5.blk (by omega) (by omega) hrc
  have hk5 := hb5.blk (by omega) (by omega) hk2
  have hB5 := hBc.trans (hb5.mono (by omega))
  have hz5 := hb5.size
  clear hsc hk1 hk2 hrc hBc hb5
  rw [← HN.out] at HP1
  generalize feed r s2 (bytesI ((n : Int) * 8 / 4294967296)) = s5 at *
  have HN5 := Lib.hid hn5; clear hn5
  go_wp2_with fail
  refine (add_cells g r s5 (w4.heap.size + 1) 0 4 4 (bytesI ((n : Int) * 8)) rfl w5 hs5 (by rw [HN5.out]; omega) (by omega) (by have := hs5.lt; omega) (hk5.range 0 _ fun j v hv => by rw [Nat.zero_add]; exact hv)).mono ?_
  rintro e w6 ⟨rfl, hs6, hb6⟩
  have hr6 := hb6.blk (by omega) (by omega) hr5
  have hB6 := hB5.trans (hb6.mono (by omega))
  have hz6 := hb6.size
  have hhl := hs6.hl
  clear hs5 hk5 hr5 hB5 hb6
  generalize feed r s5 (bytesI ((n : Int) * 8)) = s6 at *
  have hrng : ∀ o, (w6.alloc o).rangeAt g 0 (s6.h.map (Value.int .u32)) := fun o => (hs6.alloc o).hashRange
  obtain ⟨H, hH⟩ : ∃ H : List Value, H = s6.h.map (Value.int .u32) := ⟨_, rfl⟩
  have hHl : H.length = 8 := by rw [hH]; simpa using hhl
  have hHg : ∀ j, j < 8 → H.toArray[j]? = some (.int .u32 (s6.h.getD j 0)) := fun j hj => by rw [hH]; exact row_get s6.h j (by omega)
  rw [← hH] at hrng
  have HHG := Lib.hid hHg
  have HRNG := Lib.hid hrng
  clear hH hHg hrng
  go_wp2_with ((with_reducible refine wpList_load_mid rfl 47 (.tmp 44) rfl g 0 ?_ H _ ?_ Try.underlying47 rfl ?_ ?_); (exact rfl); (exact HRNG.out _); (rw [hHl]; kernel_rfl))
  refine wp_world fun wd hwd => ?_
  have hkd : Blk wd w6.heap.size 25 (outAt s6.h 0) := by rw [hwd]; exact Blk.new w6 25 ((zerosI 32).map (Value.int .u8))
  have hrd : Blk wd w.heap.size 25 ((zerosI 32).map (Value.int .u8)) := by rw [hwd]; exact hr6.alloc _
  have hBd : But w.heap.size g w wd := by rw [hwd]; exact hB6.alloc (by omega) _
  have HP2 : Hid ((padI r s).h = s6.h) := HP1.out
  have hgb : w.heap.size < w6.heap.size := by omega
  clear hwd hs6 hr6 hB6 HP1 HRNG
  generalize s6.h = h at *
  go_loopw [8, 9, 10, 46] (fun _ _ _ s46 wr => ∃ j : Nat, j ≤ 8 ∧ s46 = .int .i64 j ∧ Blk wr w6.heap.size 25 (outAt h j) ∧ Blk wr w.heap.size 25 ((zerosI 32).map (Value.int .u8)) ∧ But w.heap.size g w wr)
    (fun _ _ _ s46 _ => 8 - (intOf s46).toNat)
  case atStart => exact ⟨0, by omega, rfl, hkd, hrd, hBd⟩
  case round =>
    clear hkd hrd hBd
    obtain ⟨j, hj, rfl, hk, hr, hB⟩ := hrel
    by_cases hlt : j < 8
    · have hv := HHG.out j hlt
      have hix := fun w => run_index_arr (P := Try.prog) Try.underlying47 Try.isAgg45 Try.sizeOf45 hlt hv w
      have HSTEP := Lib.hid (outAt_step h j hhl hlt)
      have hol := outAt_length h j hhl
      clear hv
      generalize h.getD j 0 = x at *
      have e0 : IntKind.i64.wrap (4 * (j : Int)) = 4 * j := IntWalk.i64_in _ (by omega)
      have n0 : (4 * (j : Int)).toNat = 4 * j := by omega
      have l0 : 4 * (j : Int) ≤ 32 := by omega
      have l1 : 4 * (j : Int) < 32 := by omega
      have p0 : 0 ≤ 4 * (j : Int) := by omega
      have q0 : ¬ 32 = 4 * j := by omega
      have q1 : ¬ 4 * j = 32 := by omega
      have lj : (j : Int) < 8 := by omega
      go_wp2_with fail
      refine (bytesOf_any _ _).mono ?_; rintro e w7 ⟨rfl, hb7⟩
      have hz7 := hb7.size
      have hlk := hk.lt
      have hk7 := Below.blk hb7 hlk hk
      have hr7 := Below.blk hb7 hr.lt hr
      have hB7 := hB.trans (But.of_below (hb7.mono (by omega)))
      clear hk hr hB hb7
      go_upto_region 13 with fail
      refine wp_world fun w8 hw8 => ?_
      have hk8 : Blk w8 w6.heap.size 25 (outAt h j) := by rw [hw8]; exact hk7.alloc _
      have hr8 : Blk w8 w.heap.size 25 ((zerosI 32).map (Value.int .u8)) := by rw [hw8]; exact hr7.alloc _
      have hB8 : But w.heap.size g w w8 := by rw [hw8]; exact hB7.alloc (by omega) _
      have hx8 : Blk w8 w7.heap.size 62 ((bytesI x).map (Value.int .u8)) := by rw [hw8]; exact Blk.new w7 62 ((bytesI x).map (Value.int .u8))
      clear hw8 hk7 hr7 hB7
      refine wp_region_quiet_tail 4 (by kernel_rfl) (by kernel_rfl) ?_
      simp only [List.take_succ_cons, List.take_zero, List.drop_succ_cons, List.drop_zero]
      repeat (go_big_quiet_step (fail))
      refine wpQuiet_nil ?_
      intro nq
      refine wpList_copy_cells rfl (.tmp 54) (.tmp 55) 22 22 rfl 5 Try.underlying22 (by kernel_rfl) w6.heap.size (4 * j) (32 - 4 * j) (32 - 4 * j) ⟨w7.heap.size, 0, none⟩ 4 4 4 rfl rfl ((bytesI x).map (Value.int .u8)) rfl (Nat.min_eq_left (by omega)).symm
        (fun i v hv => by rw [Addr.add_mid, Nat.zero_add]; exact (hx8.drewN nq).cell hv) ((hk8.drewN nq).there _ _ (by rw [hol]; omega)) (ones_int _ _) ?_
      refine wpList_world fun w9 hw9 => ?_
      have hk9 : Blk w9 w6.heap.size 25 (outAt h (j + 1)) := by rw [hw9, ← HSTEP.out]; exact (hk8.drewN nq).setCells _ _
      have hr9 : Blk w9 w.heap.size 25 ((zerosI 32).map (Value.int .u8)) := by rw [hw9]; exact (hr8.drewN nq).setCells_other (by omega) _ _
      have hB9 : But w.heap.size g w w9 := by rw [hw9]; exact But.setCells (.inl (by omega)) _ _ (hB8.drewN nq)
      clear hw9 hk8 hr8 hB8 hx8
      go_wp2_with fail
      go_roundw
      case rel => exact ⟨j + 1, by omega, by go_num, hk9, hr9, hB9⟩
      case measure => simp [intOf]; omega
    · have hj8 : j = 8 := by omega
      subst hj8
      rw [outAt_done h hhl] at hk
      obtain ⟨O, hO⟩ : ∃ O : List Value, O = (h.flatMap bytesI).map (Value.int .u8) := ⟨_, rfl⟩
      have hOl : O.toArray.size = 32 := by rw [hO, List.size_toArray, List.length_map, flat_length, hhl]
      have hO1 : O.toArray.all (·.oneCell') = true := by rw [hO]; exact all_oneCell_toArray (ones_int _ _)
      have HE : Hid ((endI r s).map (Value.int .u8) = O) := by show _ = _; rw [endI, HP2.out, hO]
      rw [← hO] at hk
      have hzl : ((zerosI 32).map (Value.int .u8)).toArray.size = 32 := rfl
      clear hO
      go_wp2_with (first
        | ((with_reducible refine wpList_load_row rfl 25 (.tmp 7) rfl w6.heap.size ?_ 25 O.toArray (0, 0) _ ?_ Try.underlying25 rfl ?_ ?_); (exact rfl); (exact hk); (rw [hOl]; kernel_rfl))
        | ((with_reducible refine wpList_store_row rfl 25 (.tmp 2) (.tmp 58) rfl w.heap.size O.toArray ?_ ?_ 25 ((zerosI 32).map (Value.int .u8)).toArray ?_ ?_ ?_ ?_ ?_); (exact rfl); (exact rfl); (exact hr); (rw [hOl]; kernel_rfl); (rw [hOl, hzl]); (exact hO1)))
      exact bodyPost_ret (v := .agg O.toArray) (results_cell_row rfl _ _ _ 25 O.toArray (0, 0) _ rfl (hr.setRow (cs' := O)) Try.underlying25 rfl (by rw [hOl]; kernel_rfl)) rfl ⟨by rw [HE.out], by have := congrArg List.length HE.out; rw [List.length_map] at this; rw [this]; simpa using hOl, hB.setRow (.inl (Nat.le_refl _)) _⟩
end Go.Proofs.Ytigpccfglicjeaa
