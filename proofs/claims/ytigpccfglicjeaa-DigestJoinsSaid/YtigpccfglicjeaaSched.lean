/- The words of a block's 64 rounds: what 'schedule' returns. -/
import Derived.Test.YtigpccfglicjeaaState
import Derived.Test.YtigpccfglicjeaaLeaf
import Derived.Test.YtigpccfglicjeaaTail
namespace Go.Proofs.Ytigpccfglicjeaa
open Go.RowKit

/-- The first i words; b: the block's bytes. -/
def schedN (b : List Int) : Nat → List Int
  | 0 => []
  | i + 1 =>
    let s := schedN b i
    s ++ [if i < 16 then wordI (b.getD (4 * i) 0) (b.getD (4 * i + 1) 0) (b.getD (4 * i + 2) 0) (b.getD (4 * i + 3) 0)
      else (movedI (s.getD (i - 2) 0) 17 19 10 + s.getD (i - 7) 0 + movedI (s.getD (i - 15) 0) 7 18 3 + s.getD (i - 16) 0) % 4294967296]
theorem schedN_length (b : List Int) (i : Nat) : (schedN b i).length = i := by
  induction i with
  | zero => rfl
  | succ i ih => simp [schedN, ih]
theorem schedN_word (b : List Int) (i : Nat) (h : i < 16) :
    schedN b (i + 1) = schedN b i ++ [wordI (b.getD (4 * i) 0) (b.getD (4 * i + 1) 0) (b.getD (4 * i + 2) 0) (b.getD (4 * i + 3) 0)] := by
  simp [schedN, h]
theorem schedN_next (b : List Int) (i : Nat) (h : ¬ i < 16) :
    schedN b (i + 1) = schedN b i ++ [(movedI ((schedN b i).getD (i - 2) 0) 17 19 10 + (schedN b i).getD (i - 7) 0 + movedI ((schedN b i).getD (i - 15) 0) 7 18 3 + (schedN b i).getD (i - 16) 0) % 4294967296] := by
  simp [schedN, h]

structure SchedAt (w : World) (b : List Int) (i : Nat) (wr : World) : Prop where
  p : Blk wr w.heap.size 50 (b.map (Value.int .u8))
  o : Blk wr (w.heap.size + 1) 46 (fill 64 (.int .u32 0) [])
  s : Blk wr (w.heap.size + 1 + 1) 46 (fill 64 (.int .u32 0) ((schedN b i).map (Value.int .u32)))
  b : Below w.heap.size w wr
theorem SchedAt.start (w : World) (b : List Int) : SchedAt w b 0 (((w.alloc (.cells (b.map (Value.int .u8)).toArray 50)).alloc (.cells (fill 64 (.int .u32 0) []).toArray 46)).alloc (.cells (fill 64 (.int .u32 0) []).toArray 46)) where
  p := ((Blk.new w _ _).alloc _).alloc _
  o := by have := (Blk.new (w.alloc (.cells (b.map (Value.int .u8)).toArray 50)) 46 (fill 64 (.int .u32 0) [])).alloc (.cells (fill 64 (.int .u32 0) []).toArray 46); simpa using this
  s := by have := Blk.new ((w.alloc (.cells (b.map (Value.int .u8)).toArray 50)).alloc (.cells (fill 64 (.int .u32 0) []).toArray 46)) 46 (fill 64 (.int .u32 0) []); simp only [World.size_alloc] at this; exact this
  b := (((Below.refl _ _).alloc (Nat.le_refl _) _).alloc (by simp) _).alloc (by simp; omega) _
theorem SchedAt.drew {w wr : World} {b : List Int} {i : Nat} (h : SchedAt w b i wr) : SchedAt w b i wr.drew := ⟨h.p, h.o, h.s, Below.drew h.b⟩
theorem SchedAt.drewN {w wr : World} {b : List Int} {i : Nat} (h : SchedAt w b i wr) (n : Nat) : SchedAt w b i (wr.drewN n) := ⟨h.p, h.o, h.s, Below.drewN h.b n⟩
theorem SchedAt.byte {w wr : World} {b : List Int} {i : Nat} (h : SchedAt w b i wr) (hb : b.length = 64) (j : Nat) (hj : j < 64) : wr.cell? ⟨w.heap.size, j, none⟩ = some (.int .u8 (b.getD j 0)) := by
  refine h.p.cell ?_
  rw [List.getElem?_map, List.getD_eq_getElem?_getD, List.getElem?_eq_getElem (by omega)]; rfl
theorem SchedAt.word {w wr : World} {b : List Int} {i : Nat} (h : SchedAt w b i wr) (j : Nat) (hj : j < i) : wr.cell? ⟨w.heap.size + 1 + 1, j, none⟩ = some (.int .u32 ((schedN b i).getD j 0)) := by
  refine h.s.cell ?_
  have := schedN_length b i
  unfold fill
  rw [List.getElem?_append_left (by simp; omega), List.getElem?_map, List.getD_eq_getElem?_getD, List.getElem?_eq_getElem (by omega)]; rfl
theorem SchedAt.nextCell {w wr : World} {b : List Int} {i : Nat} (h : SchedAt w b i wr) (hi : i < 64) : wr.cell? ⟨w.heap.size + 1 + 1, i, none⟩ = some (.int .u32 0) := by
  refine h.s.cell ?_
  have := fill_next (n := 64) (z := .int .u32 0) (vs := (schedN b i).map (Value.int .u32)) (by simp [schedN_length, hi])
  rw [List.length_map, schedN_length] at this; exact this
theorem SchedAt.step {w wr : World} {b : List Int} {i : Nat} (h : SchedAt w b i wr) (hi : i < 64) (v : Int) (hv : schedN b (i + 1) = schedN b i ++ [v]) :
    SchedAt w b (i + 1) (wr.setCell ⟨w.heap.size + 1 + 1, i, none⟩ (.int .u32 v)) where
  p := h.p.set_other (a := ⟨w.heap.size + 1 + 1, i, none⟩) (by simp; omega) _
  o := h.o.set_other (a := ⟨w.heap.size + 1 + 1, i, none⟩) (by simp) _
  s := by
    have h1 := h.s.set i (.int .u32 v)
    have := fill_set (n := 64) (z := .int .u32 0) (v := Value.int .u32 v) (vs := (schedN b i).map (Value.int .u32)) (by simp [schedN_length, hi])
    rw [List.length_map, schedN_length] at this
    rw [this] at h1
    rw [hv, List.map_append]; exact h1
  b := h.b.setCell (by simp; omega) _

set_option maxHeartbeats 2000000 in
theorem schedule_any (b : List Int) (hb : b.length = 64) (w : World) :
    Calls Try.prog 31 #[.agg (b.map (Value.int .u8)).toArray] w fun e w' => e = .returned (.agg ((schedN b 64).map (Value.int .u32)).toArray) ∧ Below w.heap.size w w' := by
  obtain ⟨B, hB⟩ : ∃ B : Array Value, B = (b.map (Value.int .u8)).toArray := ⟨_, rfl⟩
  rw [← hB]
  have HB := Lib.hid hB; clear hB
  go_enter Try.func31, Try.ntmps31
  go_wp2_with fail
  go_loopw [4, 6] (fun _ i wr => ∃ k : Nat, k ≤ 16 ∧ i = .int .i64 k ∧ SchedAt w b k wr) (fun _ i _ => 16 - (intOf i).toNat)
  case atStart => exact ⟨0, by omega, rfl, by rw [HB.out]; exact SchedAt.start w b⟩
  case round =>
    obtain ⟨k, hk, rfl, hs⟩ := hrel
    by_cases hlt : k < 16
    · have HV := Lib.hid (schedN_word b k hlt)
      have c0 := hs.byte hb (4 * k) (by omega)
      have c1 := hs.byte hb (4 * k + 1) (by omega)
      have c2 := hs.byte hb (4 * k + 2) (by omega)
      have c3 := hs.byte hb (4 * k + 3) (by omega)
      have cn := hs.nextCell (by omega)
      have cf := hs.s.frozen k
      generalize b.getD (4 * k) 0 = x0 at *
      generalize b.getD (4 * k + 1) 0 = x1 at *
      generalize b.getD (4 * k + 2) 0 = x2 at *
      generalize b.getD (4 * k + 3) 0 = x3 at *
      have e0 : IntKind.i64.wrap (4 * (k : Int)) = 4 * k := IntWalk.i64_in _ (by omega)
      have e1 : IntKind.i64.wrap (4 * (k : Int) + 1) = 4 * k + 1 := IntWalk.i64_in _ (by omega)
      have e2 : IntKind.i64.wrap (4 * (k : Int) + 2) = 4 * k + 2 := IntWalk.i64_in _ (by omega)
      have e3 : IntKind.i64.wrap (4 * (k : Int) + 3) = 4 * k + 3 := IntWalk.i64_in _ (by omega)
      have n0 : (4 * (k : Int)).toNat = 4 * k := by omega
      have n1 : (4 * (k : Int) + 1).toNat = 4 * k + 1 := by omega
      have n2 : (4 * (k : Int) + 2).toNat = 4 * k + 2 := by omega
      have n3 : (4 * (k : Int) + 3).toNat = 4 * k + 3 := by omega
      have l0 : 4 * (k : Int) < 64 := by omega
      have l1 : 4 * (k : Int) + 1 < 64 := by omega
      have l2 : 4 * (k : Int) + 2 < 64 := by omega
      have l3 : 4 * (k : Int) + 3 < 64 := by omega
      have p0 : 0 ≤ 4 * (k : Int) := by omega
      have p1 : 0 ≤ 4 * (k : Int) + 1 := by omega
      have p2 : 0 ≤ 4 * (k : Int) + 2 := by omega
      have p3 : 0 ≤ 4 * (k : Int) + 3 := by omega
      have lk : (k : Int) < 64 := by omega
      go_wp2_with fail
      refine wp_region_quiet_tail 22 (by kernel_rfl) (by kernel_rfl) ?_
      simp only [List.take_succ_cons, List.take_zero, List.drop_succ_cons, List.drop_zero]
      repeat (go_big_quiet_step ((go_at_call 36; exact quiet_left (wordOf_any _ _ _ _ _))))
      refine wpQuiet_nil ?_
      intro nq
      go_wp2
      go_roundw
      case rel => exact ⟨k + 1, by omega, by go_num, (hs.drewN nq).step (by omega) _ HV.out⟩
      case measure => simp [intOf]; omega
    · have hk16 : k = 16 := by omega
      subst hk16
      go_wp2_with fail
      go_loopw [5] (fun i wr => ∃ k : Nat, 16 ≤ k ∧ k ≤ 64 ∧ i = .int .i64 k ∧ SchedAt w b k wr) (fun i _ => 64 - (intOf i).toNat)
      case atStart => exact ⟨16, by omega, by omega, rfl, hs⟩
      case round =>
        clear hs hlt hk
        obtain ⟨k, hk0, hk, rfl, hs⟩ := hrel
        by_cases hlt : k < 64
        · have HV := Lib.hid (schedN_next b k (by omega))
          have c0 := hs.word (k - 2) (by omega)
          have c1 := hs.word (k - 7) (by omega)
          have c2 := hs.word (k - 15) (by omega)
          have c3 := hs.word (k - 16) (by omega)
          have cn := hs.nextCell hlt
          have cf := hs.s.frozen k
          generalize (schedN b k).getD (k - 2) 0 = x0 at *
          generalize (schedN b k).getD (k - 7) 0 = x1 at *
          generalize (schedN b k).getD (k - 15) 0 = x2 at *
          generalize (schedN b k).getD (k - 16) 0 = x3 at *
          have e0 : IntKind.i64.wrap ((k : Int) - 2) = k - 2 := IntWalk.i64_in _ (by omega)
          have e1 : IntKind.i64.wrap ((k : Int) - 7) = k - 7 := IntWalk.i64_in _ (by omega)
          have e2 : IntKind.i64.wrap ((k : Int) - 15) = k - 15 := IntWalk.i64_in _ (by omega)
          have e3 : IntKind.i64.wrap ((k : Int) - 16) = k - 16 := IntWalk.i64_in _ (by omega)
          have n0 : ((k : Int) - 2).toNat = k - 2 := by omega
          have n1 : ((k : Int) - 7).toNat = k - 7 := by omega
          have n2 : ((k : Int) - 15).toNat = k - 15 := by omega
          have n3 : ((k : Int) - 16).toNat = k - 16 := by omega
          have l0 : (k : Int) - 2 < 64 := by omega
          have l1 : (k : Int) - 7 < 64 := by omega
          have l2 : (k : Int) - 15 < 64 := by omega
          have l3 : (k : Int) - 16 < 64 := by omega
          have p0 : 0 ≤ (k : Int) - 2 := by omega
          have p1 : 0 ≤ (k : Int) - 7 := by omega
          have p2 : 0 ≤ (k : Int) - 15 := by omega
          have p3 : 0 ≤ (k : Int) - 16 := by omega
          have lk : (k : Int) < 64 := by omega
          go_wp2_with fail
          refine wp_region_quiet_tail 22 (by kernel_rfl) (by kernel_rfl) ?_
          simp only [List.take_succ_cons, List.take_zero, List.drop_succ_cons, List.drop_zero]
          repeat (go_big_quiet_step ((go_at_call 37; exact Calls.quiet_of (moved_any _ _ _ _ (by omega) (by omega) (by omega) (by omega) (by omega) (by omega) _))))
          refine wpQuiet_nil ?_
          intro nq
          go_wp2
          go_roundw
          case rel => exact ⟨k + 1, by omega, by omega, by go_num, (hs.drewN nq).step hlt _ HV.out⟩
          case measure => simp [intOf]; omega
        · have hk64 : k = 64 := by omega
          subst hk64
          obtain ⟨S, hS⟩ : ∃ S : List Value, S = (schedN b 64).map (Value.int .u32) := ⟨_, rfl⟩
          obtain ⟨O, hO⟩ : ∃ O : List Value, O = fill 64 (.int .u32 0) [] := ⟨_, rfl⟩
          have hSl : S.toArray.size = 64 := by rw [hS]; simp [schedN_length]
          have hOl : O.toArray.size = 64 := by rw [hO]; rfl
          have h1 : Blk wr (w.heap.size + 1 + 1) 46 S := by
            have := hs.s
            rw [fill_full (by simp [schedN_length]), ← hS] at this; exact this
          have h2 : Blk wr (w.heap.size + 1) 46 O := by rw [hO]; exact hs.o
          have h3 : S.toArray.all (·.oneCell') = true := by rw [hS]; exact all_oneCell_toArray (ones_int _ _)
          have h4 := hs.b
          have HS := Lib.hid hS
          clear hS hO hs
          go_wp2_with (first
            | ((with_reducible refine wpList_load_row rfl 46 (.tmp 3) rfl (w.heap.size + 1 + 1) ?_ 46 S.toArray (0, 0) _ ?_ Try.underlying46 rfl ?_ ?_); (exact rfl); (exact h1); (rw [hSl]; kernel_rfl))
            | ((with_reducible refine wpList_store_row rfl 46 (.tmp 2) (.tmp 59) rfl (w.heap.size + 1) S.toArray ?_ ?_ 46 O.toArray ?_ ?_ ?_ ?_ ?_); (exact rfl); (exact rfl); (exact h2); (rw [hSl]; kernel_rfl); (rw [hSl, hOl]); (exact h3)))
          exact bodyPost_ret (v := .agg S.toArray) (results_cell_row rfl _ _ _ 46 S.toArray (0, 0) _ rfl (h2.setRow (cs' := S)) Try.underlying46 rfl (by rw [hSl]; kernel_rfl)) rfl ⟨by rw [HS.out], Below.setRow h4 (Nat.le_succ _) _⟩
end Go.Proofs.Ytigpccfglicjeaa
