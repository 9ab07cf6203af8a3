/- A whole block goes into the hash: 'mix'. -/
import Derived.Test.YtigpccfglicjeaaSched
import Derived.Test.YtigpccfglicjeaaArr
namespace Go.Proofs.Ytigpccfglicjeaa
open Go.RowKit

/-- One round on the eight words. -/
def rnd (k x : Int) : List Int → List Int
  | [a, b, c, d, e, f, g, h] =>
    [((h + turnedI e 6 11 25 + chI e f g + k + x) % 4294967296 + (turnedI a 2 13 22 + majI a b c) % 4294967296) % 4294967296, a, b, c,
      (d + (h + turnedI e 6 11 25 + chI e f g + k + x) % 4294967296) % 4294967296, e, f, g]
  | _ => []
/-- The eight words after i rounds. -/
def rndN (r s h : List Int) : Nat → List Int
  | 0 => h
  | i + 1 => rnd (r.getD i 0) (s.getD i 0) (rndN r s h i)
def addL (h v : List Int) : List Int := List.zipWith (fun x y => (x + y) % 4294967296) h v
/-- The hash when the block b has gone into it. -/
def mixI (r h b : List Int) : List Int := addL h (rndN r (schedN b 64) h 64)
theorem eight (l : List Int) (h : l.length = 8) : ∃ a b c d e f g i, l = [a, b, c, d, e, f, g, i] := by
  match l, h with
  | [a, b, c, d, e, f, g, i], _ => exact ⟨a, b, c, d, e, f, g, i, rfl⟩

/-- The first j sums laid into the hash. -/
def addN (h v : List Int) : Nat → List Int
  | 0 => h
  | j + 1 => (addN h v j).set j ((h.getD j 0 + v.getD j 0) % 4294967296)
theorem addN_get (h v : List Int) : ∀ (j i : Nat), j ≤ i → (addN h v j).getD i 0 = h.getD i 0
  | 0, _, _ => rfl
  | j + 1, i, hi => by
    rw [addN, List.getD_eq_getElem?_getD, List.getElem?_set_ne (by omega), ← List.getD_eq_getElem?_getD]
    exact addN_get h v j i (by omega)
theorem addN_eight (h v : List Int) (hh : h.length = 8) (hv : v.length = 8) : addN h v 8 = addL h v := by
  obtain ⟨a, b, c, d, e, f, g, i, rfl⟩ := eight h hh
  obtain ⟨a', b', c', d', e', f', g', i', rfl⟩ := eight v hv
  rfl
theorem row_get (l : List Int) (k : Nat) (hk : k < l.length) : (l.map (Value.int .u32)).toArray[k]? = some (.int .u32 (l.getD k 0)) := by
  rw [List.getElem?_toArray, List.getElem?_map, List.getD_eq_getElem?_getD, List.getElem?_eq_getElem hk]; rfl

set_option maxRecDepth 100000 in
set_option maxHeartbeats 4000000 in
theorem mix_any (g : Nat) (h r bk : List Int) (t : Int) (w : World) (hs : St w g h r bk t) :
    Calls Try.prog 25 #[.pointer (some ⟨g, 0, none⟩)] w fun e w' => e = .returned (.tuple #[]) ∧ St w' g (mixI r h bk) r bk t ∧ But w.heap.size g w w' := by
  have hlt := hs.lt
  have hbr := hs.blockRange
  have hbl := hs.bl
  obtain ⟨v0, v1, v2, v3, v4, v5, v6, v7, rfl⟩ := eight h hs.hl
  have HC := schedule_any bk hbl w
  obtain ⟨B, hB⟩ : ∃ B : List Value, B = bk.map (Value.int .u8) := ⟨_, rfl⟩
  obtain ⟨S, hS⟩ : ∃ S : List Value, S = (schedN bk 64).map (Value.int .u32) := ⟨_, rfl⟩
  have hBl : B.length = 64 := by rw [hB]; simpa using hbl
  have hSl : S.length = 64 := by rw [hS]; simp [schedN_length]
  have hSo : S.toArray.all (·.oneCell') = true := by rw [hS]; exact all_oneCell_toArray (ones_int _ _)
  rw [← hB] at hbr HC
  rw [← hS] at HC
  have HS := Lib.hid hS; clear hS hB
  have HCh := Lib.hid HC; clear HC
  go_enter Try.func25, Try.ntmps25
  go_wp2_with ((with_reducible refine wpList_load_mid rfl 50 (.tmp 19) rfl g 72 ?_ B _ ?_ Try.underlying50 rfl ?_ ?_); (exact rfl); (exact hbr); (rw [hBl]; kernel_rfl))
  refine HCh.out.mono ?_; rintro e w1 ⟨rfl, hb1⟩
  clear HCh
  have hs1 := hs.below hb1 hlt
  have hz1 := hb1.size
  go_upto_region 1 with ((with_reducible refine wpList_store_row rfl 46 (.tmp 2) (.tmp 21) rfl w1.heap.size S.toArray ?_ ?_ 46 (fill 64 (.int .u32 0) []).toArray ?_ ?_ ?_ ?_ ?_); (exact rfl); (exact rfl); (exact Blk.new _ _ _); (rw [List.size_toArray, hSl]; kernel_rfl); (rw [List.size_toArray, List.size_toArray, hSl]; rfl); (exact hSo))
  refine wp_world fun w2 hw2 => ?_
  have hs2 : St w2 g [v0, v1, v2, v3, v4, v5, v6, v7] r bk t := by
    rw [hw2]
    exact ⟨by have := (hs1.blk.alloc (.cells (fill 64 (.int .u32 0) []).toArray 46)); unfold Blk at this ⊢; rw [setRow_other _ _ _ _ (by have := hs1.lt; omega)]; exact this, hs1.hl, hs1.rl, hs1.bl⟩
  have hS2 : Blk w2 w1.heap.size 46 S := by
    rw [hw2]
    exact (Blk.new w1 46 (fill 64 (.int .u32 0) [])).setRow
  have hB2 : But w.heap.size g w w2 := by
    rw [hw2]
    exact But.of_below (Below.setRow (hb1.alloc hz1 _) hz1 _)
  clear hw2 hs1 hb1
  have c0 : w2.cell? ⟨g, 0, none⟩ = some (.int .u32 v0) := hs2.hash 0 (by omega)
  have c1 : w2.cell? ⟨g, 1, none⟩ = some (.int .u32 v1) := hs2.hash 1 (by omega)
  have c2 : w2.cell? ⟨g, 2, none⟩ = some (.int .u32 v2) := hs2.hash 2 (by omega)
  have c3 : w2.cell? ⟨g, 3, none⟩ = some (.int .u32 v3) := hs2.hash 3 (by omega)
  have c4 : w2.cell? ⟨g, 4, none⟩ = some (.int .u32 v4) := hs2.hash 4 (by omega)
  have c5 : w2.cell? ⟨g, 5, none⟩ = some (.int .u32 v5) := hs2.hash 5 (by omega)
  have c6 : w2.cell? ⟨g, 6, none⟩ = some (.int .u32 v6) := hs2.hash 6 (by omega)
  have c7 : w2.cell? ⟨g, 7, none⟩ = some (.int .u32 v7) := hs2.hash 7 (by omega)
  go_quiet (fail)
  go_wp2_with fail
  go_quiet (fail)
  go_wp2_with ((with_reducible refine wpList_load_row rfl 46 (.tmp 2) rfl w1.heap.size ?_ 46 S.toArray (0, 0) _ ?_ Try.underlying46 rfl ?_ ?_); (exact rfl); (exact hS2); (rw [List.size_toArray, hSl]; kernel_rfl))
  refine wp_world fun w3 hw3 => ?_
  have hs3 : St w3 g [v0, v1, v2, v3, v4, v5, v6, v7] r bk t := by rw [hw3]; exact hs2.drewN _
  have hB3 : But w.heap.size g w w3 := by rw [hw3]; exact hB2.drewN _
  clear hw3 hs2 hS2 hB2 c0 c1 c2 c3 c4 c5 c6 c7
  go_loopw [3, 4, 5, 6, 7, 8, 9, 10, 11, 12, 13, 14, 63] (fun s3 s4 s5 s6 s7 s8 s9 s10 _ _ _ _ s63 wr => ∃ (k : Nat) (a b c d e f gg hh : Int), k ≤ 64 ∧ s63 = .int .i64 k ∧
      s3 = .int .u32 a ∧ s4 = .int .u32 b ∧ s5 = .int .u32 c ∧ s6 = .int .u32 d ∧ s7 = .int .u32 e ∧ s8 = .int .u32 f ∧ s9 = .int .u32 gg ∧ s10 = .int .u32 hh ∧
      rndN r (schedN bk 64) [v0, v1, v2, v3, v4, v5, v6, v7] k = [a, b, c, d, e, f, gg, hh] ∧ St wr g [v0, v1, v2, v3, v4, v5, v6, v7] r bk t ∧ But w.heap.size g w wr)
    (fun _ _ _ _ _ _ _ _ _ _ _ _ s63 _ => 64 - (intOf s63).toNat)
  case atStart => exact ⟨0, v0, v1, v2, v3, v4, v5, v6, v7, by omega, rfl, rfl, rfl, rfl, rfl, rfl, rfl, rfl, rfl, rfl, hs3, hB3⟩
  case round =>
    clear hs3 hB3
    obtain ⟨k, a, b, c, d, e, f, gg, hh, hk, rfl, rfl, rfl, rfl, rfl, rfl, rfl, rfl, rfl, hr, hsr, hbr⟩ := hrel
    by_cases hlt : k < 64
    · have HR : Hid (rndN r (schedN bk 64) [v0, v1, v2, v3, v4, v5, v6, v7] (k + 1) = rnd (r.getD k 0) ((schedN bk 64).getD k 0) [a, b, c, d, e, f, gg, hh]) := by
        show _ = _; rw [rndN, hr]
      have cr := hsr.round k hlt
      have hv := row_get (schedN bk 64) k (by rw [schedN_length]; exact hlt)
      rw [← HS.out] at hv
      clear hr
      generalize r.getD k 0 = x at *
      generalize (schedN bk 64).getD k 0 = y at *
      have lk : (k : Int) < 64 := by omega
      have hix := fun w => run_index_arr (P := Try.prog) Try.underlying46 Try.isAgg45 Try.sizeOf45 hlt hv w
      clear hv
      go_wp2_with fail
      go_quiet ((first
        | (go_at_call 32; exact quiet_left (turned_any _ _ _ _ (by omega) (by omega) (by omega) (by omega) (by omega) (by omega) _))
        | (go_at_call 33; exact quiet_left (choice_any _ _ _ _))))
      go_wp2_with (first
        | (go_at_call 32; refine (turned_any _ _ _ _ (by omega) (by omega) (by omega) (by omega) (by omega) (by omega) _).mono ?_; rintro e w' ⟨rfl, rfl⟩)
        | (go_at_call 34; refine (majority_any _ _ _ _).mono ?_; rintro e w' ⟨rfl, rfl⟩))
      go_roundw
      case rel => exact ⟨k + 1, _, _, _, _, _, _, _, _, by omega, by go_num, rfl, rfl, rfl, rfl, rfl, rfl, rfl, rfl, HR.out, hsr.drewN _, hbr.drewN _⟩
      case measure => simp [intOf]; omega
    · have hk64 : k = 64 := by omega
      subst hk64
      have hi0 : ∀ (j : Nat), j < 8 → #[Value.int .u32 a, Value.int .u32 b, Value.int .u32 c, Value.int .u32 d, Value.int .u32 e, Value.int .u32 f, Value.int .u32 gg, Value.int .u32 hh][j]? = some (.int .u32 ([a, b, c, d, e, f, gg, hh].getD j 0)) :=
        fun j hj => row_get [a, b, c, d, e, f, gg, hh] j hj
      have HI := Lib.hid hi0; clear hi0
      have HF := Lib.hid hr; clear hr
      clear hlt hk
      go_wp2_with fail
      go_loopw [15, 16, 114] (fun _ _ s114 wr => ∃ j : Nat, j ≤ 8 ∧ s114 = .int .i64 j ∧ St wr g (addN [v0, v1, v2, v3, v4, v5, v6, v7] [a, b, c, d, e, f, gg, hh] j) r bk t ∧ But w.heap.size g w wr)
        (fun _ _ s114 _ => 8 - (intOf s114).toNat)
      case atStart => exact ⟨0, by omega, rfl, hsr, hbr⟩
      case round =>
        clear hsr hbr
        obtain ⟨j, hj, rfl, hsr, hbr⟩ := hrel
        by_cases hlt : j < 8
        · have cj := hsr.hash j hlt
          have cf := hsr.frozen j
          rw [addN_get _ _ j j (Nat.le_refl _)] at cj
          have HA : Hid (addN [v0, v1, v2, v3, v4, v5, v6, v7] [a, b, c, d, e, f, gg, hh] (j + 1) = (addN [v0, v1, v2, v3, v4, v5, v6, v7] [a, b, c, d, e, f, gg, hh] j).set j (([v0, v1, v2, v3, v4, v5, v6, v7].getD j 0 + [a, b, c, d, e, f, gg, hh].getD j 0) % 4294967296)) := rfl
          have hv := HI.out j hlt
          have hix := fun w => run_index_arr (P := Try.prog) Try.underlying47 Try.isAgg45 Try.sizeOf45 hlt hv w
          clear hv
          generalize [v0, v1, v2, v3, v4, v5, v6, v7].getD j 0 = x at *
          generalize [a, b, c, d, e, f, gg, hh].getD j 0 = y at *
          have lj : (j : Int) < 8 := by omega
          go_wp2_with fail
          refine wp_region_quiet_tail 11 (by kernel_rfl) (by kernel_rfl) ?_
          simp only [List.take_succ_cons, List.take_zero, List.drop_succ_cons, List.drop_zero]
          repeat (go_big_quiet_step (fail))
          refine wpQuiet_nil ?_
          intro nq
          go_wp2
          go_roundw
          case rel => exact ⟨j + 1, by omega, by go_num, by rw [HA.out]; exact (hsr.drewN nq).setHash j hlt _, (hbr.drewN nq).setCell (.inr rfl) _⟩
          case measure => simp [intOf]; omega
        · have hj8 : j = 8 := by omega
          subst hj8
          go_wp2_with fail
          go_end0
          refine ⟨rfl, ?_, hbr⟩
          rw [mixI, HF.out, ← addN_eight _ _ rfl rfl]; exact hsr
end Go.Proofs.Ytigpccfglicjeaa
