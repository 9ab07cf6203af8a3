/- The document's two examples, worked out by the kernel; 'awake' answers true. -/
import Derived.Test.YtigpccfglicjeaaJoined
import Derived.Lib.SlBytesConst
namespace Go.Proofs.Ytigpccfglicjeaa
open Go.RowKit
theorem sum_abc : sumI [97, 98, 99] = [0xba, 0x78, 0x16, 0xbf, 0x8f, 0x01, 0xcf, 0xea, 0x41, 0x41, 0x40, 0xde, 0x5d, 0xae, 0x22, 0x23, 0xb0, 0x03, 0x61, 0xa3, 0x96, 0x17, 0x7a, 0x9c, 0xb4, 0x10, 0xff, 0x61, 0xf2, 0x00, 0x15, 0xad] := by decide +kernel
theorem sum_none : sumI [] = [0xe3, 0xb0, 0xc4, 0x42, 0x98, 0xfc, 0x1c, 0x14, 0x9a, 0xfb, 0xf4, 0xc8, 0x99, 0x6f, 0xb9, 0x24, 0x27, 0xae, 0x41, 0xe4, 0x64, 0x9b, 0x93, 0x4c, 0xa4, 0x95, 0x99, 0x1b, 0x78, 0x52, 0xb8, 0x55] := by decide +kernel

set_option maxHeartbeats 2000000 in
theorem awake_any (w : World) :
    Calls Try.prog 9 #[] w fun e w' => e = .returned (.bool true) ∧ Below w.heap.size w w' := by
  have hcv := fun (w : World) (C : Array Value) (n c : Nat) => Lib.run_convert_bytes_const (P := Try.prog) w 22 5 C n c Try.underlying22 Try.underlying5
  go_enter Try.func9, Try.ntmps9
  go_wp2_with fail
  refine calls_world fun wa hwa => ?_
  have hqa : wa.heap[w.heap.size]? = some (.cells ([97, 98, 99].map (Value.int .u8)).toArray 5 (3, 4)) := by rw [hwa]; exact heap_alloc_new w _
  have hla : w.heap.size < wa.heap.size := by rw [hwa]; simp
  have hBa : Below w.heap.size w wa := by rw [hwa]; exact (Below.refl _ _).alloc (Nat.le_refl _) _
  clear hwa
  refine (sum_any (.slice (some ⟨w.heap.size, 0, none⟩) 3 3) [97, 98, 99] wa (.inr ⟨w.heap.size, 0, 3, rfl, by simp, hla, fun j v hv => by rw [Nat.zero_add, cell_of_row _ _ _ _ _ _ hqa]; simpa using hv⟩) (by simp)).mono ?_
  rintro e w1 ⟨rfl, _, hb1⟩
  have hB1 := hBa.trans (hb1.mono (Nat.le_of_lt hla))
  clear hqa hBa hb1
  rw [sum_abc]
  obtain ⟨O, hO⟩ : ∃ O : List Value, O = ([0xba, 0x78, 0x16, 0xbf, 0x8f, 0x01, 0xcf, 0xea, 0x41, 0x41, 0x40, 0xde, 0x5d, 0xae, 0x22, 0x23, 0xb0, 0x03, 0x61, 0xa3, 0x96, 0x17, 0x7a, 0x9c, 0xb4, 0x10, 0xff, 0x61, 0xf2, 0x00, 0x15, 0xad] : List Int).map (Value.int .u8) := ⟨_, rfl⟩
  have hOl : O.toArray.size = 32 := by rw [hO]; rfl
  have hO1 : O.toArray.all (·.oneCell') = true := by rw [hO]; exact all_oneCell_toArray (ones_int _ _)
  have hO0 : O[0]? = some (.int .u8 0xba) := by rw [hO]; rfl
  have hO3 : O[3]? = some (.int .u8 0xbf) := by rw [hO]; rfl
  rw [← hO]
  have H0 := Lib.hid hO0
  have H3 := Lib.hid hO3
  clear hO hO0 hO3
  go_wp2_with fail
  refine (sum_any (.slice none 0 0) [] w1 (.inl ⟨rfl, rfl⟩) (by simp)).mono ?_
  rintro e w2 ⟨rfl, _, hb2⟩
  have hB2 := hB1.trans (hb2.mono hB1.size)
  clear hB1 hb2
  rw [sum_none]
  obtain ⟨N, hN⟩ : ∃ N : List Value, N = ([0xe3, 0xb0, 0xc4, 0x42, 0x98, 0xfc, 0x1c, 0x14, 0x9a, 0xfb, 0xf4, 0xc8, 0x99, 0x6f, 0xb9, 0x24, 0x27, 0xae, 0x41, 0xe4, 0x64, 0x9b, 0x93, 0x4c, 0xa4, 0x95, 0x99, 0x1b, 0x78, 0x52, 0xb8, 0x55] : List Int).map (Value.int .u8) := ⟨_, rfl⟩
  have hNl : N.toArray.size = 32 := by rw [hN]; rfl
  have hN1 : N.toArray.all (·.oneCell') = true := by rw [hN]; exact all_oneCell_toArray (ones_int _ _)
  have hN0 : N[0]? = some (.int .u8 0xe3) := by rw [hN]; rfl
  have hN3 : N[3]? = some (.int .u8 0x42) := by rw [hN]; rfl
  rw [← hN]
  have G0 := Lib.hid hN0
  have G3 := Lib.hid hN3
  clear hN hN0 hN3
  have hzl : ((zerosI 32).map (Value.int .u8)).toArray.size = 32 := rfl
  have hZ2 : Blk ((w2.alloc (.cells ((zerosI 32).map (Value.int .u8)).toArray 25)).alloc (.cells ((zerosI 32).map (Value.int .u8)).toArray 25)) (w2.heap.size + 1) 25 ((zerosI 32).map (Value.int .u8)) := by
    have := Blk.new (w2.alloc (.cells ((zerosI 32).map (Value.int .u8)).toArray 25)) 25 ((zerosI 32).map (Value.int .u8))
    rw [World.size_alloc] at this; exact this
  have hZ1 : Blk ((w2.alloc (.cells ((zerosI 32).map (Value.int .u8)).toArray 25)).alloc (.cells ((zerosI 32).map (Value.int .u8)).toArray 25)) w2.heap.size 25 ((zerosI 32).map (Value.int .u8)) := (Blk.new w2 _ _).alloc _
  have hZ3 := hZ2
  unfold Blk at hZ3
  rw [← setRow_other _ w2.heap.size (w2.heap.size + 1) O.toArray (by omega)] at hZ3
  have HZ3 := Lib.hid hZ3
  have HZ1 := Lib.hid hZ1
  have HZ2 := Lib.hid hZ2
  clear hZ1 hZ2 hZ3
  go_upto_region 2 with (first
    | ((with_reducible refine wpList_store_row rfl 25 (.tmp 1) (.tmp 5) rfl w2.heap.size O.toArray ?_ ?_ 25 ((zerosI 32).map (Value.int .u8)).toArray ?_ ?_ ?_ ?_ ?_); (exact rfl); (exact rfl); (exact HZ1.out); (rw [hOl]; kernel_rfl); (rw [hOl, hzl]); (exact hO1))
    | ((with_reducible refine wpList_store_row rfl 25 (.tmp 2) (.tmp 6) rfl (w2.heap.size + 1) N.toArray ?_ ?_ 25 ((zerosI 32).map (Value.int .u8)).toArray ?_ ?_ ?_ ?_ ?_); (exact rfl); (exact rfl); (exact HZ3.out); (rw [hNl]; kernel_rfl); (rw [hNl, hzl]); (exact hN1)))
  refine wp_world fun w3 hw3 => ?_
  have k1 : Blk w3 w2.heap.size 25 O := by
    rw [hw3]; unfold Blk; rw [setRow_other _ _ _ _ (by omega)]; exact (Blk.setRow (cs' := O) HZ1.out)
  have k2 : Blk w3 (w2.heap.size + 1) 25 N := by
    rw [hw3]; exact Blk.setRow (cs' := N) HZ3.out
  have hB3 : Below w.heap.size w w3 := by
    rw [hw3]; exact Below.setRow (Below.setRow ((hB2.alloc hB2.size _).alloc (by have := hB2.size; simp; omega) _) hB2.size _) (by have := hB2.size; omega) _
  have c0 := k1.cell H0.out
  have c3 := k1.cell H3.out
  have d0 := k2.cell G0.out
  have d3 := k2.cell G3.out
  clear hw3 k1 k2 HZ1 HZ2 HZ3
  go_wp2
  go_ret
  exact ⟨rfl, hB3⟩
end Go.Proofs.Ytigpccfglicjeaa
