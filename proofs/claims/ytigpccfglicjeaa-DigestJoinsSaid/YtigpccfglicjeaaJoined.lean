/- The digest of all parts: 'Joined', 'Sum'. -/
import Derived.Test.YtigpccfglicjeaaEnd
import Derived.Test.YtigpccfglicjeaaBegin
namespace Go.Proofs.Ytigpccfglicjeaa
open Go.RowKit

/-- The value v is a slice of these bytes. -/
def Bytes (w : World) (v : Value) (p : List Int) : Prop :=
  (v = .slice none 0 0 ∧ p = []) ∨ ∃ pb po cap, v = .slice (some ⟨pb, po, none⟩) p.length cap ∧ p.length ≤ cap ∧ pb < w.heap.size ∧ w.rangeAt pb po (p.map (Value.int .u8))
theorem Bytes.below {w w' : World} {v : Value} {p : List Int} (h : Bytes w v p) (hb : Below w.heap.size w w') : Bytes w' v p := by
  rcases h with h | ⟨pb, po, cap, h1, h2, h3, h4⟩
  · exact Or.inl h
  · exact Or.inr ⟨pb, po, cap, h1, h2, Nat.lt_of_lt_of_le h3 hb.size, fun j u hu => by rw [World.cell?_of_block (w := w) (hb.block pb h3)]; exact h4 j u hu⟩
/-- The same, or a slice of none, wherever it points to. -/
def BytesE (w : World) (v : Value) (p : List Int) : Prop := Bytes w v p ∨ ∃ a cap, v = .slice (some a) 0 cap ∧ p = []
theorem BytesE.below {w w' : World} {v : Value} {p : List Int} (h : BytesE w v p) (hb : Below w.heap.size w w') : BytesE w' v p :=
  h.elim (fun k => .inl (k.below hb)) .inr
/-- The value v is a slice of slices of bytes. -/
def Parts (w : World) (v : Value) (ps : List (List Int)) : Prop :=
  (v = .slice none 0 0 ∧ ps = []) ∨ ∃ qb qo cap, v = .slice (some ⟨qb, qo, none⟩) ps.length cap ∧ qb < w.heap.size ∧
    ∀ i, i < ps.length → ∃ u, w.cell? ⟨qb, qo + i, none⟩ = some u ∧ BytesE w u (ps.getD i [])
def initI : SS := ⟨hTab, zeros 64, 0⟩
/-- The document's digest of these bytes, as the program works it out. -/
def sumI (p : List Int) : List Int := endI kTab (feed kTab initI p)
theorem flat_take_succ (ps : List (List Int)) (i : Nat) (h : i < ps.length) : (ps.take (i + 1)).flatten = (ps.take i).flatten ++ ps.getD i [] := by
  rw [List.take_succ_eq_append_getElem h, List.flatten_append, List.getD_eq_getElem?_getD, List.getElem?_eq_getElem h]; simp
theorem flat_take_le (ps : List (List Int)) (i : Nat) : ((ps.take i).flatten).length ≤ ps.flatten.length := by
  have h : ps.flatten = (ps.take i).flatten ++ (ps.drop i).flatten := by rw [← List.flatten_append, List.take_append_drop]
  rw [h, List.length_append]; omega

/-- 'add' of one part. -/
theorem add_part (g : Nat) (s : SS) (v : Value) (p : List Int) (w w0 : World) (hb : BytesE w0 v p) (hbw : Below w0.heap.size w0 w) (hg : w0.heap.size ≤ g) (hs : St w g s.h kTab s.b s.n) (hn : s.n + p.length < 4294967296) :
    Calls Try.prog 20 #[.pointer (some ⟨g, 0, none⟩), v] w fun e w' =>
      e = .returned (.tuple #[]) ∧ St w' g (feed kTab s p).h kTab (feed kTab s p).b (feed kTab s p).n ∧ But w.heap.size g w w' := by
  rcases hb with (⟨rfl, rfl⟩ | ⟨pb, po, cap, rfl, h2, h3, h4⟩) | ⟨a, cap, rfl, rfl⟩
  · exact (add_none g none 0 w).mono fun e w' ⟨he, hw⟩ => by subst hw; exact ⟨he, hs, But.refl _ _ _⟩
  · exact add_cells g kTab s pb po cap p.length p rfl w hs hn h2 (by omega) fun j u hu => by rw [World.cell?_of_block (w := w0) (hbw.block pb h3)]; exact h4 j u hu
  · exact (add_none g (some a) cap w).mono fun e w' ⟨he, hw⟩ => by subst hw; exact ⟨he, hs, But.refl _ _ _⟩

set_option maxHeartbeats 2000000 in
theorem joined_any (v : Value) (ps : List (List Int)) (w : World) (hp : Parts w v ps) (hn : ps.flatten.length < 67108864) (hm : ps.length < 9223372036854775807) :
    Calls Try.prog 12 #[v] w fun e w' =>
      e = .returned (.agg ((sumI ps.flatten).map (Value.int .u8)).toArray) ∧ (sumI ps.flatten).length = 32 ∧ Below w.heap.size w w' := by
  have hz0 := zeroSt
  obtain ⟨qa, cap, rfl, hq⟩ : ∃ qa cap, v = .slice qa ps.length cap ∧ (∀ i, i < ps.length → ∃ qb qo u, qa = some ⟨qb, qo, none⟩ ∧ qb < w.heap.size ∧ w.cell? ⟨qb, qo + i, none⟩ = some u ∧ BytesE w u (ps.getD i [])) := by
    rcases hp with ⟨rfl, rfl⟩ | ⟨qb, qo, cap, rfl, h1, h2⟩
    · exact ⟨none, 0, rfl, fun i hi => by simp at hi⟩
    · exact ⟨some ⟨qb, qo, none⟩, cap, rfl, fun i hi => by obtain ⟨u, h3, h4⟩ := h2 i hi; exact ⟨qb, qo, u, rfl, h1, h3, h4⟩⟩
  have HQ := Lib.hid hq; clear hq hp
  go_enter Try.func12, Try.ntmps12
  go_wp2_with fail
  refine calls_world fun wa hwa => ?_
  have hka : Blk wa w.heap.size 25 ((zerosI 32).map (Value.int .u8)) := by rw [hwa]; exact Blk.new w 25 ((zerosI 32).map (Value.int .u8))
  have hBa : Below w.heap.size w wa := by rw [hwa]; exact (Below.refl _ _).alloc (Nat.le_refl _) _
  have hza : wa.heap.size = w.heap.size + 1 := by rw [hwa]; simp
  clear hwa
  refine (begin_any _).mono ?_; rintro e w1 ⟨rfl, hb1⟩
  have hk1 := Below.blk hb1 hka.lt hka
  have hB1 := hBa.trans (hb1.mono (by omega))
  have hz1 := hb1.size
  clear hka hBa hb1
  go_upto_region 2 with ((with_reducible refine wpList_store_row rfl 52 (.tmp 3) (.tmp 6) rfl w1.heap.size beginCells.toArray ?_ ?_ 52 stZero.toArray ?_ ?_ ?_ ?_ ?_); (exact rfl); (exact rfl); (exact Blk.new w1 _ stZero); (rw [beginCells_size]; kernel_rfl); (rw [stZero_size, beginCells_size]); (exact beginCells_ones))
  refine wp_world fun w2 hw2 => ?_
  have hs2 : St w2 w1.heap.size initI.h kTab initI.b initI.n := by rw [hw2]; exact ⟨(Blk.new w1 52 stZero).setRow (cs' := beginCells), rfl, rfl, rfl⟩
  have hk2 : Blk w2 w.heap.size 25 ((zerosI 32).map (Value.int .u8)) := by
    rw [hw2]; unfold Blk; rw [setRow_other _ _ _ _ (by omega)]; exact hk1.alloc _
  have hB2 : Below w.heap.size w w2 := by rw [hw2]; exact Below.setRow (hB1.alloc (by omega) _) (by omega) _
  clear hw2 hk1 hB1 hz0
  go_wp2_with fail
  have hgw : w.heap.size + 1 ≤ w1.heap.size := by omega
  go_loopw [5, 9] (fun _ s9 wr => ∃ i : Nat, i ≤ ps.length ∧ s9 = .int .i64 i ∧ St wr w1.heap.size (feed kTab initI (ps.take i).flatten).h kTab (feed kTab initI (ps.take i).flatten).b (feed kTab initI (ps.take i).flatten).n ∧
      Blk wr w.heap.size 25 ((zerosI 32).map (Value.int .u8)) ∧ Below w.heap.size w wr) (fun _ s9 _ => ps.length - (intOf s9).toNat)
  case atStart => exact ⟨0, by omega, rfl, hs2, hk2, hB2⟩
  case round =>
    clear hs2 hk2 hB2
    obtain ⟨i, hi, rfl, hs, hk, hB⟩ := hrel
    by_cases hlt : i < ps.length
    · obtain ⟨qb, qo, u, rfl, hql, hcu, hbu⟩ := HQ.out i hlt
      have hcr : wr.cell? ⟨qb, qo + i, none⟩ = some u := by rw [World.cell?_of_block (w := w) (hB.block qb hql)]; exact hcu
      have hle := flat_take_le ps (i + 1)
      have hft := flat_take_succ ps i hlt
      have hnn := feed_n kTab initI (ps.take i).flatten
      have hlen : (feed kTab initI (ps.take i).flatten).n + (ps.getD i []).length < 4294967296 := by
        rw [hft, List.length_append] at hle
        rw [hnn]; show 0 + _ + _ < _; omega
      have HFT : Hid (feed kTab initI (ps.take (i + 1)).flatten = feed kTab (feed kTab initI (ps.take i).flatten) (ps.getD i [])) := by
        show _ = _; rw [hft, feed_append]
      clear hft hnn hle
      generalize feed kTab initI (ps.take i).flatten = s at *
      generalize ps.getD i [] = p at *
      have hB0 := hB
      go_wp2_with fail
      refine (add_part _ s u p wr w hbu hB0 (by omega) hs hlen).mono ?_
      rintro e w3 ⟨rfl, hs3, hb3⟩
      have hk3 := hb3.blk hk.lt (by omega) hk
      have hB3 := hB.trans ((hb3.mono (Nat.le_of_lt hk.lt)).below (by omega))
      clear hs hk hB hb3
      go_wp2_with fail
      go_roundw
      case rel => exact ⟨i + 1, by omega, by go_num, by rw [HFT.out]; exact hs3, hk3, hB3⟩
      case measure => simp [intOf]; omega
    · have hie : i = ps.length := by omega
      subst hie
      rw [List.take_of_length_le (Nat.le_refl _)] at hs
      have hnn := feed_n kTab initI ps.flatten
      have hnl : (feed kTab initI ps.flatten).n < 67108864 := by rw [hnn]; show 0 + _ < _; omega
      have HE : Hid (endI kTab (feed kTab initI ps.flatten) = sumI ps.flatten) := rfl
      clear hnn
      generalize feed kTab initI ps.flatten = s at *
      go_wp2_with fail
      refine (end_any _ kTab s wr hs hnl).mono ?_
      rintro e w3 ⟨rfl, hsl, hb3⟩
      rw [HE.out] at hsl
      rw [HE.out]
      have hk3 := hb3.blk hk.lt (by omega) hk
      have hB3 := hB.trans ((hb3.mono (Nat.le_of_lt hk.lt)).below (by omega))
      clear hs hk hB hb3
      obtain ⟨O, hO⟩ : ∃ O : List Value, O = (sumI ps.flatten).map (Value.int .u8) := ⟨_, rfl⟩
      have hOl : O.toArray.size = 32 := by rw [hO, List.size_toArray, List.length_map, hsl]
      have hO1 : O.toArray.all (·.oneCell') = true := by rw [hO]; exact all_oneCell_toArray (ones_int _ _)
      have hzl : ((zerosI 32).map (Value.int .u8)).toArray.size = 32 := rfl
      rw [← hO]
      have HO := Lib.hid hO; clear hO
      go_wp2_with ((with_reducible refine wpList_store_row rfl 25 (.tmp 2) (.tmp 16) rfl w.heap.size O.toArray ?_ ?_ 25 ((zerosI 32).map (Value.int .u8)).toArray ?_ ?_ ?_ ?_ ?_); (exact rfl); (exact rfl); (exact hk3); (rw [hOl]; kernel_rfl); (rw [hOl, hzl]); (exact hO1))
      exact bodyPost_ret (v := .agg O.toArray) (results_cell_row rfl _ _ _ 25 O.toArray (0, 0) _ rfl (hk3.setRow (cs' := O)) Try.underlying25 rfl (by rw [hOl]; kernel_rfl)) rfl ⟨by rw [HO.out], hsl, Below.setRow hB3 (Nat.le_refl _) _⟩

theorem Parts.below {w w' : World} {v : Value} {ps : List (List Int)} (h : Parts w v ps) (hb : Below w.heap.size w w') : Parts w' v ps := by
  rcases h with h | ⟨qb, qo, cap, h1, h2, h3⟩
  · exact .inl h
  · refine .inr ⟨qb, qo, cap, h1, Nat.lt_of_lt_of_le h2 hb.size, fun i hi => ?_⟩
    obtain ⟨u, h4, h5⟩ := h3 i hi
    exact ⟨u, by rw [World.cell?_of_block (w := w) (hb.block qb h2)]; exact h4, h5.below hb⟩
theorem Bytes.slice {w : World} {v : Value} {p : List Int} (h : Bytes w v p) : ∃ a l c, v = .slice a l c := by
  rcases h with ⟨rfl, _⟩ | ⟨pb, po, cap, rfl, _⟩
  · exact ⟨_, _, _, rfl⟩
  · exact ⟨_, _, _, rfl⟩

set_option maxHeartbeats 2000000 in
theorem sum_any (v : Value) (p : List Int) (w : World) (hp : Bytes w v p) (hn : p.length < 67108864) :
    Calls Try.prog 10 #[v] w fun e w' =>
      e = .returned (.agg ((sumI p).map (Value.int .u8)).toArray) ∧ (sumI p).length = 32 ∧ Below w.heap.size w w' := by
  obtain ⟨a, l, c, rfl⟩ := hp.slice
  go_enter Try.func10, Try.ntmps10
  go_wp2_with fail
  refine calls_world fun wa hwa => ?_
  have hka : Blk wa w.heap.size 25 ((zerosI 32).map (Value.int .u8)) := by rw [hwa]; exact (Blk.new w 25 ((zerosI 32).map (Value.int .u8))).alloc _
  have hqa : Blk wa (w.heap.size + 1) 22 [.slice a l c] := by
    rw [hwa]
    have := Blk.new (w.alloc (.cells ((zerosI 32).map (Value.int .u8)).toArray 25)) 22 [.slice a l c]
    rw [World.size_alloc] at this; exact this
  have hBa : Below w.heap.size w wa := by rw [hwa]; exact ((Below.refl _ _).alloc (Nat.le_refl _) _).alloc (by simp) _
  have hpa := hp.below hBa
  clear hwa
  have hJ := joined_any (.slice (some ⟨w.heap.size + 1, 0, none⟩) 1 1) [p] wa (.inr ⟨w.heap.size + 1, 0, 1, rfl, hqa.lt, fun i hi => by
    have : i = 0 := by simpa using hi
    subst this
    exact ⟨_, hqa.cell rfl, .inl hpa⟩⟩) (by simpa using hn) (by simp)
  rw [show [p].flatten = p by simp] at hJ
  refine hJ.mono ?_
  rintro e w1 ⟨rfl, hsl, hb1⟩
  have hk1 := Below.blk hb1 hka.lt hka
  have hB1 := hBa.trans (hb1.mono (Nat.le_of_lt hka.lt))
  clear hka hqa hBa hpa hb1
  obtain ⟨O, hO⟩ : ∃ O : List Value, O = (sumI p).map (Value.int .u8) := ⟨_, rfl⟩
  have hOl : O.toArray.size = 32 := by rw [hO, List.size_toArray, List.length_map, hsl]
  have hO1 : O.toArray.all (·.oneCell') = true := by rw [hO]; exact all_oneCell_toArray (ones_int _ _)
  have hzl : ((zerosI 32).map (Value.int .u8)).toArray.size = 32 := rfl
  rw [← hO]
  have HO := Lib.hid hO; clear hO
  go_wp2_with ((with_reducible refine wpList_store_row rfl 25 (.tmp 2) (.tmp 5) rfl w.heap.size O.toArray ?_ ?_ 25 ((zerosI 32).map (Value.int .u8)).toArray ?_ ?_ ?_ ?_ ?_); (exact rfl); (exact rfl); (exact hk1); (rw [hOl]; kernel_rfl); (rw [hOl, hzl]); (exact hO1))
  exact bodyPost_ret (v := .agg O.toArray) (results_cell_row rfl _ _ _ 25 O.toArray (0, 0) _ rfl (hk1.setRow (cs' := O)) Try.underlying25 rfl (by rw [hOl]; kernel_rfl)) rfl ⟨by rw [HO.out], hsl, Below.setRow hB1 (Nat.le_refl _) _⟩
end Go.Proofs.Ytigpccfglicjeaa
