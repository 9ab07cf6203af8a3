/- The tables of constants as numbers; the state that 'begin' returns. -/
import Derived.Test.YtigpccfglicjeaaConst2
import Derived.Test.YtigpccfglicjeaaState
namespace Go.Proofs.Ytigpccfglicjeaa
open Go.RowKit

def hTab : List Int := [0x6a09e667, 0xbb67ae85, 0x3c6ef372, 0xa54ff53a, 0x510e527f, 0x9b05688c, 0x1f83d9ab, 0x5be0cd19]
def kTab : List Int := [0x428a2f98, 0x71374491, 0xb5c0fbcf, 0xe9b5dba5, 0x3956c25b, 0x59f111f1, 0x923f82a4, 0xab1c5ed5,
  0xd807aa98, 0x12835b01, 0x243185be, 0x550c7dc3, 0x72be5d74, 0x80deb1fe, 0x9bdc06a7, 0xc19bf174,
  0xe49b69c1, 0xefbe4786, 0x0fc19dc6, 0x240ca1cc, 0x2de92c6f, 0x4a7484aa, 0x5cb0a9dc, 0x76f988da,
  0x983e5152, 0xa831c66d, 0xb00327c8, 0xbf597fc7, 0xc6e00bf3, 0xd5a79147, 0x06ca6351, 0x14292967,
  0x27b70a85, 0x2e1b2138, 0x4d2c6dfc, 0x53380d13, 0x650a7354, 0x766a0abb, 0x81c2c92e, 0x92722c85,
  0xa2bfe8a1, 0xa81a664b, 0xc24b8b70, 0xc76c51a3, 0xd192e819, 0xd6990624, 0xf40e3585, 0x106aa070,
  0x19a4c116, 0x1e376c08, 0x2748774c, 0x34b0bcb5, 0x391c0cb3, 0x4ed8aa4a, 0x5b9cca4f, 0x682e6ff3,
  0x748f82ee, 0x78a5636f, 0x84c87814, 0x8cc70208, 0x90befffa, 0xa4506ceb, 0xbef9a3f7, 0xc67178f2]
theorem hTab_is : (((primesL 312).take 8).map fun p => fracI (sqB p)) = hTab := by decide +kernel
theorem kTab_is : ((primesL 312).map fun p => fracI (cbB p)) = kTab := by decide +kernel
theorem consStart_is : consStart = hTab.map (Value.int .u32) := by rw [← hTab_is, List.map_map]; rfl
theorem consRounds_is : consRounds = kTab.map (Value.int .u32) := by rw [← kTab_is, List.map_map]; rfl

def zeros (n : Nat) : List Int := List.replicate n 0
/-- The cells of the state as 'begin' returns it. -/
def beginCells : List Value := stCells hTab kTab (zeros 64) 0
def stZero : List Value := stCells (zeros 8) (zeros 64) (zeros 64) 0
theorem zeroSt (w : World) : (zeroValue 52).run Try.prog w = .ok (.agg stZero.toArray) w :=
  (zero_of_info (P := Try.prog) (t := 52) (v := .agg stZero.toArray) (n := 137) (by kernel_rfl)).1 w

theorem consStart_size : consStart.toArray.size = 8 := by rw [consStart_is]; rfl
theorem consRounds_size : consRounds.toArray.size = 64 := by rw [consRounds_is]; rfl
theorem consStart_ones : consStart.toArray.all (·.oneCell') = true := by rw [consStart_is]; exact all_oneCell_toArray (ones_int _ _)
theorem consRounds_ones : consRounds.toArray.all (·.oneCell') = true := by rw [consRounds_is]; exact all_oneCell_toArray (ones_int _ _)
theorem begin_cells : over (over stZero 0 consStart) 8 consRounds = beginCells := by rw [consStart_is, consRounds_is]; rfl
theorem beginCells_size : beginCells.toArray.size = 137 := by kernel_rfl
theorem stZero_size : stZero.toArray.size = 137 := by kernel_rfl
theorem beginCells_ones : beginCells.toArray.all (·.oneCell') = true := by decide +kernel

set_option maxHeartbeats 2000000 in
theorem begin_any (w : World) :
    Calls Try.prog 19 #[] w fun e w' => e = .returned (.agg beginCells.toArray) ∧ Below w.heap.size w w' := by
  have hz0 := zeroSt
  go_enter Try.func19, Try.ntmps19
  go_upto_region 2 with fail
  clear hz0
  refine wp_world fun wz hwz => ?_
  have hz : St wz (w.heap.size + 1) (zeros 8) (zeros 64) (zeros 64) 0 := by
    rw [hwz]
    refine ⟨?_, rfl, rfl, rfl⟩
    have := Blk.new (w.alloc (.cells stZero.toArray 52)) 52 stZero
    rw [show (w.alloc (.cells stZero.toArray 52)).heap.size = w.heap.size + 1 by simp] at this
    exact this
  have hr : Blk wz w.heap.size 52 stZero := by rw [hwz]; exact (Blk.new _ _ _).alloc _
  have hs : w.heap.size + 1 < wz.heap.size := hz.lt
  have hb : Below w.heap.size w wz := by rw [hwz]; exact ((Below.refl _ _).alloc (Nat.le_refl _) _).alloc (by simp) _
  clear hwz
  go_wp2_with fail
  refine (constants_any _).mono ?_; rintro e w1 ⟨rfl, hc⟩
  have hz1 := hz.below hc hs
  have hr1 := Below.blk hc (by omega) hr
  have hb1 := hb.trans (hc.mono (by omega))
  have hz2 : Blk ((w1.setCells (w.heap.size + 1) 0 consStart).setCells (w.heap.size + 1) 8 consRounds) (w.heap.size + 1) 52 beginCells := by
    have := (hz1.blk.setCells consStart 0).setCells consRounds 8
    rw [show stCells (zeros 8) (zeros 64) (zeros 64) 0 = stZero from rfl, begin_cells] at this; exact this
  have hr2 := (hr1.setCells_other (show w.heap.size ≠ w.heap.size + 1 by omega) consStart 0).setCells_other (show w.heap.size ≠ w.heap.size + 1 by omega) consRounds 8
  have ht1 := hz1.there 0 8 (by omega)
  have ht2 : (w1.setCells (w.heap.size + 1) 0 consStart).there (w.heap.size + 1) 8 64 := (hz1.blk.setCells consStart 0).there 8 64 (by rw [over_length, stCells_length]; simp [zeros])
  have hb2 := ((But.of_below (g := w.heap.size + 1) hb1).setCells (b := w.heap.size + 1) (.inr rfl) consStart 0).setCells (b := w.heap.size + 1) (.inr rfl) consRounds 8
  clear hz hr hb hc hz1 hr1 hb1
  go_wp2_with (first
    | ((with_reducible refine wpList_store_mid rfl 47 (.tmp 6) (.tmp 4) rfl (w.heap.size + 1) 0 consStart.toArray ?_ ?_ ?_ ?_ ?_ ?_); (exact rfl); (exact rfl); (exact consStart_size ▸ ht1); (rw [consStart_size]; kernel_rfl); (exact consStart_ones))
    | ((with_reducible refine wpList_store_mid rfl 46 (.tmp 7) (.tmp 5) rfl (w.heap.size + 1) 8 consRounds.toArray ?_ ?_ ?_ ?_ ?_ ?_); (exact rfl); (exact rfl); (exact consRounds_size ▸ ht2); (rw [consRounds_size]; kernel_rfl); (exact consRounds_ones))
    | ((with_reducible refine wpList_load_row rfl 52 (.tmp 1) rfl (w.heap.size + 1) ?_ 52 beginCells.toArray (0, 0) _ ?_ Try.underlying52 rfl ?_ ?_); (exact rfl); (exact hz2); (rw [beginCells_size]; kernel_rfl))
    | ((with_reducible refine wpList_store_row rfl 52 (.tmp 0) (.tmp 8) rfl w.heap.size beginCells.toArray ?_ ?_ 52 stZero.toArray ?_ ?_ ?_ ?_ ?_); (exact rfl); (exact rfl); (exact hr2); (rw [beginCells_size]; kernel_rfl); (rw [stZero_size, beginCells_size]); (exact beginCells_ones)))
  have hr3 := hr2.setRow (cs' := beginCells)
  exact bodyPost_ret (v := .agg beginCells.toArray) (results_cell_row rfl _ _ _ 52 beginCells.toArray (0, 0) _ rfl hr3 Try.underlying52 rfl (by rw [beginCells_size]; kernel_rfl)) rfl ⟨rfl, Below.setRow (hb2.below (Nat.le_succ _)) (Nat.le_refl _) _⟩
end Go.Proofs.Ytigpccfglicjeaa
