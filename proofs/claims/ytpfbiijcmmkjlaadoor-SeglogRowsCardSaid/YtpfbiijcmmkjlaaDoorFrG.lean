/- The reference's sum, a number's bytes and a number out of them, over texts; parts as one text; the document's examples. The reference's bytes of a number, a number of bytes, a frame's bytes; parts as one text. The document's examples: 'awake' answers true. -/
import Derived.Test.YtpfbiijcmmkjlaaDoorFrD
namespace Go.Proofs.YtpfbiijcmmkjlaaDoor.Fr
open Go.RowKit
set_option maxRecDepth 100000

theorem str_at (z : List Int) (hy : Byt z) (j : Nat) (hj : j < z.length) (w : World) :
    (Instr.index 9 (.string (strOfNums z)) (.int .i64 j)).run Tryd.prog w = .ok (.int .u8 (z.getD j 0)) w := by
  have ⟨h0, h1⟩ := hy.getD j
  rw [run_index_string w _ _ _ _ Tryd.underlying9, dif_pos ⟨by omega, by rw [strOfNums_size]; omega⟩]
  refine congrArg (fun y => Result.ok (Value.int .u8 y) w) ?_
  have e : z.getD j 0 = z[j] := by rw [List.getD_eq_getElem?_getD, List.getElem?_eq_getElem hj]; rfl
  rw [e] at h0 h1 ⊢
  show (((z.map fun n => UInt8.ofNat n.toNat).toArray[j]'(by simpa using hj)).toNat : Int) = z[j]
  simp only [List.getElem_toArray, List.getElem_map, UInt8.toNat_ofNat']
  omega

end Go.Proofs.YtpfbiijcmmkjlaaDoor.Fr
namespace Go.Proofs.YtpfbiijcmmkjlaaDoor.Fr
open Go.RowKit

theorem four_conv (w : World) (a b c d : Int) : (convert 32 9 (.slice (some ⟨w.heap.size, 0, none⟩) 4 4)).run Tryd.prog (w.alloc (.cells #[.int .u8 a, .int .u8 b, .int .u8 c, .int .u8 d] 5)) = .ok (.string (strOfNums [a, b, c, d])) (w.alloc (.cells #[.int .u8 a, .int .u8 b, .int .u8 c, .int .u8 d] 5)) :=
  run_string (p := [a, b, c, d]) (Or.inr ⟨w.heap.size, 0, 4, rfl, Nat.le_refl _, by show w.heap.size < (w.alloc _).heap.size; simp, (Blk.new w 5 ([a, b, c, d].map (Value.int .u8))).range 0 _ fun j v hv => by rw [Nat.zero_add]; exact hv⟩)
theorem one_conv (w : World) (a : Int) : (convert 32 9 (.slice (some ⟨w.heap.size, 0, none⟩) 1 1)).run Tryd.prog (w.alloc (.cells #[.int .u8 a] 5)) = .ok (.string (strOfNums [a])) (w.alloc (.cells #[.int .u8 a] 5)) :=
  run_string (p := [a]) (Or.inr ⟨w.heap.size, 0, 1, rfl, Nat.le_refl _, by show w.heap.size < (w.alloc _).heap.size; simp, (Blk.new w 5 ([a].map (Value.int .u8))).range 0 _ fun j v hv => by rw [Nat.zero_add]; exact hv⟩)
theorem ret_str {a b : ByteArray} (h : a = b) : Ending.returned (.string a) = .returned (.string b) := by rw [h]

theorem run_stringE {w : World} {v : Value} {p : List Int} (h : BytesE w v p) : (convert 32 9 v).run Tryd.prog w = .ok (.string (strOfNums p)) w := by
  rcases h with h | ⟨a, cap, rfl, rfl⟩
  · exact run_string h
  · have hl : (loadCells a 0).run Tryd.prog w = .ok ([].map (Value.int .u8)).toArray w := by
      simpa using run_loadCells_list (P := Tryd.prog) w a [] (fun j v hj => by simp at hj)
    rw [run_convert_bytes_string w 32 9 5 _ 0 cap Tryd.underlying32 Tryd.underlying5 Tryd.underlying9, run_bytesToString w _ 0 cap [] hl, foldl_push_bytes]
    rfl

theorem Parts.nil (w : World) : Parts w (.slice none 0 0) [] := .inl ⟨rfl, rfl⟩
/-- What 'joined' answers. -/
def joinR (most : Nat) (ps : List (List Int)) : Value := if ps.length ≤ 50 ∧ ps.flatten.length ≤ most then .tuple #[.string (strOfNums ps.flatten), .bool true] else .tuple #[.string ⟨#[]⟩, .bool false]

end Go.Proofs.YtpfbiijcmmkjlaaDoor.Fr
namespace Go.Proofs.YtpfbiijcmmkjlaaDoor.Fr
open Go.RowKit

theorem sum_digits : sumN [49, 50, 51, 52, 53, 54, 55, 56, 57] = 3808858755 := by decide +kernel
def digits : List Int := [49, 50, 51, 52, 53, 54, 55, 56, 57]

end Go.Proofs.YtpfbiijcmmkjlaaDoor.Fr
