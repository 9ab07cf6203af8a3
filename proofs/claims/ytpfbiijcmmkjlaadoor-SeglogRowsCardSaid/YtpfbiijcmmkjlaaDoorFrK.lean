/- Frames and back: the numbers; what Encode answers where there is no frame; bytes of one's own that are written. -/
import Derived.Test.YtpfbiijcmmkjlaaDoorFrJ
import Derived.Test.YtpfbiijcmmkjlaaDoorFrG
namespace Go.Proofs.YtpfbiijcmmkjlaaDoor.Fr
open Go.RowKit
set_option maxRecDepth 100000

theorem numI_four (n : Int) (h0 : 0 ≤ n) (h1 : n < 4294967296) (q : List Int) : numI (fourI n ++ q) = n := by
  rw [numI_is]
  simp only [fourI, List.cons_append, List.nil_append, List.getD_cons_zero, List.getD_cons_succ]
  omega
theorem fourI_length (n : Int) : (fourI n).length = 4 := rfl
theorem frameI_length (k : Int) (p : List Int) : (frameI k p).length = p.length + 9 := by
  unfold frameI innerI
  simp only [List.length_append, fourI_length, List.length_cons]; omega
theorem innerI_byt {k : Int} {p : List Int} (h0 : 1 ≤ k) (h1 : k ≤ 9) (hy : Byt p) : Byt (innerI k p) := fun z hz => by
  rcases List.mem_cons.1 hz with rfl | hz
  · omega
  · exact hy z hz
theorem frameI_byt {k : Int} {p : List Int} (h0 : 1 ≤ k) (h1 : k ≤ 9) (hy : Byt p) : Byt (frameI k p) :=
  (fourI_byt _).append ((innerI_byt h0 h1 hy).append (fourI_byt _))
/-- A frame is read back. -/
theorem decodeI_frame {k : Int} {p : List Int} (h0 : 1 ≤ k) (h1 : k ≤ 9) (hy : Byt p) (hl : p.length ≤ 8192) : decodeI (frameI k p) = (k, p, 0) := by
  have hlen := frameI_length k p
  have hs : ((sumN (innerI k p) : Nat) : Int) < 4294967296 := by have := sumN_lt (innerI_byt h0 h1 hy); omega
  have hn : numI (frameI k p) = p.length := numI_four _ (by omega) (by omega) _
  have hz : sizeF (frameI k p) = ((p.length : Int) + 9, true) := by
    unfold sizeF; rw [hn, hlen, if_pos (by omega)]
  have h4 : (frameI k p).getD 4 0 = k := rfl
  have hd4 : (frameI k p).drop 4 = innerI k p ++ fourI (sumN (innerI k p) : Nat) := rfl
  have hil : (innerI k p).length = p.length + 1 := rfl
  have hin : ((frameI k p).drop 4).take ((frameI k p).length - 8) = innerI k p := by
    rw [hd4, hlen, List.take_append_of_le_length (by omega), List.take_of_length_le (by omega)]
  have hsum : (frameI k p).drop ((frameI k p).length - 4) = fourI (sumN (innerI k p) : Nat) := by
    have e : frameI k p = (fourI p.length ++ innerI k p) ++ fourI (sumN (innerI k p) : Nat) := by unfold frameI; rw [List.append_assoc]
    rw [hlen, e, List.drop_append_of_le_length (by rw [List.length_append, hil]; show _ ≤ 4 + _; omega), List.drop_of_length_le (by rw [List.length_append, hil]; show 4 + _ ≤ _; omega)]; rfl
  have hpay : ((frameI k p).drop 5).take ((frameI k p).length - 9) = p := by
    have e : (frameI k p).drop 5 = p ++ fourI (sumN (innerI k p) : Nat) := rfl
    rw [e, hlen, List.take_append_of_le_length (by omega), List.take_of_length_le (by omega)]
  have hns : numI (fourI (sumN (innerI k p) : Nat)) = (sumN (innerI k p) : Nat) := by
    have := numI_four ((sumN (innerI k p) : Nat) : Int) (by omega) hs []
    rwa [List.append_nil] at this
  unfold decodeI
  rw [hz, if_pos ⟨rfl, by rw [hlen]; show (p.length : Int) + 9 = _; omega⟩]
  unfold decI
  rw [h4, if_pos ⟨h0, h1⟩, hin, hsum, hns, if_pos rfl, hpay]

set_option maxHeartbeats 1000000 in
theorem encode_bad (k : Int) (v : Value) (ps : List (List Int)) (w : World) (hk : ¬ (1 ≤ k ∧ k ≤ 9)) (hp : Parts w v ps) :
    Calls Tryd.prog 21 #[.int .i64 k, v] w fun e w' => e = .returned (.tuple #[.slice none 0 0, .int .i64 1]) ∧ w = w' := by
  obtain ⟨qa, cap, rfl, _⟩ := hp.open
  have hdk : decide (1 ≤ k ∧ k ≤ 9) = false := by simpa using hk
  have ck := isKind_any k w
  rw [hdk] at ck
  have CK := Lib.hid ck
  clear hp hdk ck hk
  go_enter Tryd.func21, Tryd.ntmps21
  go_wp2_with fail
  refine CK.out.mono ?_; rintro e w' ⟨rfl, rfl⟩
  go_wp2_with fail
  go_ret2
  exact ⟨rfl, rfl⟩
set_option maxHeartbeats 1000000 in
theorem encode_long (k : Int) (v : Value) (ps : List (List Int)) (w : World) (hk : 1 ≤ k ∧ k ≤ 9) (hp : Parts w v ps) (hm : ps.length < 9223372036854775807) (hq : ∀ i, i < ps.length → (ps.getD i []).length < 1000000000000) (hn : 8192 < ps.flatten.length) :
    Calls Tryd.prog 21 #[.int .i64 k, v] w fun e w' => e = .returned (.tuple #[.slice none 0 0, .int .i64 5]) ∧ w = w' := by
  have cz := payloadSize_any v ps w hp hm hq
  obtain ⟨qa, cap, rfl, _⟩ := hp.open
  have hdk : decide (1 ≤ k ∧ k ≤ 9) = true := by simpa using hk
  have ck := isKind_any k w
  rw [hdk] at ck
  have CK := Lib.hid ck
  have hr : sizeR ps.flatten.length = .tuple #[.int .i64 0, .bool false] := by unfold sizeR; rw [if_neg (by omega)]
  rw [hr] at cz
  have CZ := Lib.hid cz
  clear hp hdk ck hk cz hr hn
  go_enter Tryd.func21, Tryd.ntmps21
  go_wp2_with fail
  refine CK.out.mono ?_; rintro e w' ⟨rfl, rfl⟩
  go_wp2_with fail
  refine CZ.out.mono ?_; rintro e w' ⟨rfl, rfl⟩
  go_wp2_with fail
  go_ret2
  exact ⟨rfl, rfl⟩
/-- A byte of one's own is written. -/
theorem OwnB.cell {w : World} {base : Nat} {g : Addr} {n c : Nat} {ys : List Int} (h : OwnB w base (.slice (some g) n c) ys) (i : Nat) (hi : i < ys.length) :
    g.off = 0 ∧ g.spot = none ∧ base ≤ g.block ∧ w.cell? ⟨g.block, i, none⟩ = some (.int .u8 (ys.getD i 0)) ∧ w.frozen? ⟨g.block, i, none⟩ = false := by
  rcases h.2 with ⟨h1, _⟩ | ⟨x, cap, cur, h1, h2, h3, h4, _, h5, h6⟩
  · cases h1
  · cases h1
    refine ⟨rfl, rfl, h2, ?_, frozen_of_row w x i cur _ h3⟩
    rw [cell_of_row w x i cur _ _ h3, ← Array.getElem?_toList]
    have : (cur.toList.take (ys.length * 1))[i]? = some (.int .u8 (ys.getD i 0)) := by
      rw [h6, List.getElem?_map, getD_some hi]; rfl
    rwa [List.getElem?_take_of_lt (by omega)] at this
theorem OwnB.set {w : World} {base : Nat} {g : Addr} {n c : Nat} {ys : List Int} (h : OwnB w base (.slice (some g) n c) ys) (i : Nat) (y : Int) :
    OwnB (w.setCell ⟨g.block, i, none⟩ (.int .u8 y)) base (.slice (some g) n c) (ys.set i y) := by
  refine ⟨by simp, ?_⟩
  rcases h.2 with ⟨h1, _⟩ | ⟨x, cap, cur, h1, h2, h3, h4, h4', h5, h6⟩
  · cases h1
  · cases h1
    refine .inr ⟨x, c, cur.setIfInBounds i (.int .u8 y), by rw [List.length_set], h2, heap_setCell_same w x i cur _ (.int .u8 y) h3, by rw [List.length_set]; exact h4, h4', by simpa using h5, ?_⟩
    rw [List.length_set, Array.toList_setIfInBounds, List.map_set, ← h6, List.take_set]
end Go.Proofs.YtpfbiijcmmkjlaaDoor.Fr
