/- The document's examples: 'awake' answers true. -/
import Derived.Test.YteccdbkgeomjeaaFrF
namespace Go.Proofs.Yteccdbkgeomjeaa
open Go.RowKit

theorem sum_digits : sumN [49, 50, 51, 52, 53, 54, 55, 56, 57] = 3808858755 := by decide +kernel
def digits : List Int := [49, 50, 51, 52, 53, 54, 55, 56, 57]

set_option maxHeartbeats 1000000 in
theorem awake_any (w : World) :
    Calls Try.prog 11 #[] w fun e w' => e = .returned (.bool true) ∧ Below w.heap.size w w' := by
  have hcv := fun (w : World) (C : Array Value) (n c : Nat) => Lib.run_convert_bytes_const (P := Try.prog) w 30 5 C n c Try.underlying30 Try.underlying5
  go_enter Try.func11, Try.ntmps11
  go_wp2_with fail
  refine (encode_any 1 (.slice none 0 0) [] w (by omega) (by omega) (Parts.nil _) (by simp) (fun i hi => by simp at hi) (by simp)).mono ?_; rintro e w1 ⟨v1, rfl, ho1, hb1⟩
  obtain ⟨g1, c1, hv1⟩ : ∃ g c, v1 = .slice g 9 c := ho1.slice
  subst hv1
  have HB1 := Lib.hid hb1
  clear ho1 hb1
  go_wp2_with fail
  refine calls_world fun wa hwa => ?_
  have hq1 : wa.heap[w1.heap.size]? = some (.cells (digits.map (Value.int .u8)).toArray 5 (9, 10)) := by
    rw [hwa]
    exact (Below.heap_alloc _ _ w1.heap.size (by simp)).trans (heap_alloc_new w1 _)
  have hq2 : Blk wa (w1.heap.size + 1) 30 [.slice (some ⟨w1.heap.size, 0, none⟩) 9 9] := by
    rw [hwa]
    exact heap_alloc2_new _ _ _
  have hBa : Below w1.heap.size w1 wa := by rw [hwa]; exact ((Below.refl _ _).alloc (Nat.le_refl _) _).alloc (by simp) _
  have hlt : w1.heap.size < wa.heap.size := by have := hq2.lt; omega
  clear hwa
  have hJ := sum_any (.slice (some ⟨w1.heap.size + 1, 0, none⟩) 1 1) [digits] wa (.inr ⟨w1.heap.size + 1, 0, 1, rfl, hq2.lt, fun i hi => by
    have : i = 0 := by simpa using hi
    subst this
    exact ⟨_, hq2.cell rfl, .inl (.inr ⟨w1.heap.size, 0, 9, rfl, Nat.le_refl _, hlt, fun j v hv => by rw [Nat.zero_add, cell_of_row _ _ _ _ _ _ hq1]; simpa using hv⟩)⟩⟩) (by simp) (fun i hi => by
    have : i = 0 := by simpa using hi
    subst this
    exact ⟨by show 9 < _; omega, fun z hz => by
      have : z ∈ digits := hz
      simp [digits] at this
      omega⟩)
  rw [show [digits].flatten = digits from by simp, show sumN digits = 3808858755 from sum_digits] at hJ
  refine hJ.mono ?_; rintro e w2 ⟨rfl, hb2⟩
  have HB2 := Lib.hid (HB1.out.trans ((hBa.trans (hb2.mono (Nat.le_of_lt hlt))).mono HB1.out.size))
  clear hJ hq1 hq2 hBa hb2
  go_wp2_with fail
  go_ret
  exact ⟨rfl, HB2.out⟩
end Go.Proofs.Yteccdbkgeomjeaa
