/- Package frame: 'Sum', 'Encode'. -/
import Derived.Test.YtpfbiijcmmkjlaaDoorFrC
namespace Go.Proofs.YtpfbiijcmmkjlaaDoor.Fr
open Go.RowKit
set_option maxRecDepth 100000

set_option maxHeartbeats 1000000 in
theorem sum_any (v : Value) (ps : List (List Int)) (w : World) (hp : Parts w v ps) (hm : ps.length < 9223372036854775807)
    (hq : ∀ i, i < ps.length → (ps.getD i []).length < 9223372036854775807 ∧ Byt (ps.getD i [])) :
    Calls Tryd.prog 43 #[v] w fun e w' => e = .returned (.int .u32 (sumN ps.flatten : Nat)) ∧ Below w.heap.size w w' := by
  have HP := Lib.hid hp
  have HQ := Lib.hid hq
  obtain ⟨qa, cap, rfl, _⟩ := hp.open
  clear hp hq
  go_enter Tryd.func43, Tryd.ntmps43
  go_wp2_with fail
  refine (newTable_any _).mono ?_; rintro e w1 ⟨rfl, hk1, hb1⟩
  have HK := Lib.hid hk1
  have HB := Lib.hid hb1
  clear hk1 hb1
  go_wp2_with fail
  refine (tsum_any _ _ ps w1 HK.out (HP.out.below HB.out) hm HQ.out).mono ?_; rintro e w2 ⟨rfl, rfl⟩
  go_wp2_with fail
  go_ret
  exact ⟨rfl, HB.out⟩

/-- A frame's inner bytes, and all its bytes. -/
def innerI (k : Int) (p : List Int) : List Int := k :: p
def frameI (k : Int) (p : List Int) : List Int := fourI p.length ++ (innerI k p ++ fourI (sumN (innerI k p) : Nat))
/-- What Encode answers. -/
def encR (w : World) (k : Int) (p : List Int) (v : Value) (c : Int) (w' : World) : Prop :=
  if 1 ≤ k ∧ k ≤ 9 then if p.length ≤ 8192 then c = 0 ∧ OwnB w' w.heap.size v (frameI k p) else c = 5 ∧ v = .slice none 0 0 else c = 1 ∧ v = .slice none 0 0

/-- What the call owns stays, whatever else is made. -/
theorem OwnB.keep {w w' : World} {base : Nat} {v : Value} {ys : List Int} (h : OwnB w base v ys) (hb : Below w.heap.size w w') : OwnB w' base v ys := by
  refine ⟨h.1, ?_⟩
  rcases h.2 with h1 | ⟨g, cap, cur, h1, h2, h3, h4⟩
  · exact .inl h1
  · refine .inr ⟨g, cap, cur, h1, h2, ?_, h4⟩
    rw [hb.block g ?_]
    · exact h3
    · by_cases k : g < w.heap.size
      · exact k
      · rw [Array.getElem?_eq_none (by omega)] at h3; cases h3

set_option maxRecDepth 100000 in
set_option maxHeartbeats 4000000 in
theorem encode_any (k : Int) (v : Value) (ps : List (List Int)) (w : World) (hk0 : 1 ≤ k) (hk9 : k ≤ 9) (hp : Parts w v ps) (hm : ps.length < 9223372036854775807)
    (hq : ∀ i, i < ps.length → (ps.getD i []).length < 1000000000000 ∧ Byt (ps.getD i [])) (hn : ps.flatten.length ≤ 8192) :
    Calls Tryd.prog 21 #[.int .i64 k, v] w fun e w' => ∃ v', e = .returned (.tuple #[v', .int .i64 0]) ∧ OwnB w' w.heap.size v' (frameI k ps.flatten) ∧ Below w.heap.size w w' := by
  obtain ⟨qa, cap, rfl, hpe⟩ := hp.open
  have HP := Lib.hid hp
  have HPE := Lib.hid hpe
  have HQ := Lib.hid hq
  have HSZ : Hid (sizeR ps.flatten.length = .tuple #[.int .i64 ps.flatten.length, .bool true]) := by show _ = _; unfold sizeR; rw [if_pos hn]
  clear hp hpe hq
  go_enter Tryd.func21, Tryd.ntmps21
  have hdk : decide (1 ≤ k ∧ k ≤ 9) = true := by simp [hk0, hk9]
  go_wp2_with fail
  refine (isKind_any _ _).mono ?_; rintro e w' ⟨rfl, rfl⟩
  rw [hdk]
  clear hdk
  go_wp2_with fail
  refine (payloadSize_any _ ps w HP.out hm (fun i hi => (HQ.out i hi).1)).mono ?_; rintro e w' ⟨rfl, rfl⟩
  rw [HSZ.out]
  generalize hN : ps.flatten.length = N at *
  have HN := Lib.hid hN
  clear hN HSZ
  go_wp2_with fail
  refine (bytesOf_any _ _).mono ?_; rintro e w1 ⟨rfl, hb1⟩
  have HB1 := Lib.hid hb1
  clear hb1
  obtain ⟨O, hO⟩ : ∃ O : List Value, O = (fourI N).map (Value.int .u8) := ⟨_, rfl⟩
  have hOl : O.toArray.size = 4 := by rw [hO]; rfl
  have hO1 : O.toArray.all (·.oneCell') = true := by rw [hO]; exact all_oneCell_toArray (ones_int _ _)
  rw [← hO]
  have HO := Lib.hid hO
  clear hO
  go_upto_region 7 with ((with_reducible refine wpList_store_row rfl 95 (.tmp 8) (.tmp 25) rfl w1.heap.size O.toArray ?_ ?_ 95 zeros4.toArray ?_ ?_ ?_ ?_ ?_); (exact rfl); (exact rfl); (exact Blk.new w1 _ zeros4); (rw [hOl]; kernel_rfl); (rw [hOl]; rfl); (exact hO1))
  refine wp_world fun w2 hw2 => ?_
  have hk2 : Blk w2 w1.heap.size 95 O := by rw [hw2]; exact (Blk.new w1 95 zeros4).setRow (cs' := O)
  have hB2 : Below w.heap.size w w2 := by rw [hw2]; exact Below.setRow (HB1.out.alloc HB1.out.size _) HB1.out.size _
  have HB2 := Lib.hid hB2
  have HK2 := Lib.hid hk2
  clear hw2 hk2 hB2
  obtain ⟨i0, hi, hz0, hz1, hz2⟩ := info_parts byteInfo
  have HI := Lib.hid hi
  have HZ0 := Lib.hid hz0
  have HZ1 := Lib.hid hz1
  have HZ2 := Lib.hid hz2
  clear hi hz0 hz1 hz2
  go_wp2_with (with_reducible refine wpList_make_own w2 rfl (.const (.int .i64 0)) (.tmp 27) 32 rfl w.heap.size 5 i0 (.int .u8 0) 1 Tryd.underlying32 HI.out HZ0.out HZ1.out .i64 .i64 ((N + 9 : Nat) : Int) (N + 9) ?_ ?_ rfl ?_ ?_ ?_ ?_)
  case refine_1 => rfl
  case refine_2 => rfl
  case refine_3 => rw [HZ2.out]; omega
  case refine_4 => unfold maxLen; omega
  case refine_5 => exact HB2.out.size
  intro w3 hown hg3
  have hbe : Below w2.heap.size w2 w3 := (Below.refl _ _).grown hg3 (Nat.le_refl _) fun _ h => by cases h
  have hk3 : Blk w3 w1.heap.size 95 O := Below.blk hbe HK2.out.lt HK2.out
  have HB3 := Lib.hid (HB2.out.trans (hbe.mono HB2.out.size))
  have HOW : Hid (OwnB w3 w.heap.size (.slice (some ⟨w2.heap.size, 0, none⟩) 0 (N + 9)) []) := hown
  have hk3r : w3.rangeAt w1.heap.size 0 ((fourI N).map (Value.int .u8)) := by
    have := hk3.range 0 O fun j v hv => by rw [Nat.zero_add]; exact hv
    rw [← HO.out]; exact this
  have HR3 := Lib.hid hk3r
  clear hown hg3 hbe hk3 hk3r HI HZ0 HZ1 HZ2 HK2 HB2
  go_wp2_with (with_reducible refine wpList_append_bytes rfl (.tmp 29) (.tmp 30) rfl w.heap.size (.slice (some ⟨w2.heap.size, 0, none⟩) 0 (N + 9)) [] ?_ HOW.out w1.heap.size 0 4 4 (fourI N) ?_ rfl HR3.out ?_ HB3.out.size ?_)
  case refine_1 => rfl
  case refine_2 => rfl
  case refine_3 => simp
  intro v4 w4 hown4 hg4
  have hb4 := HOW.out.below hg4 HB3.out.size
  have HB4 := Lib.hid (HB3.out.trans hb4)
  obtain ⟨g4, c4, rfl⟩ : ∃ g c, v4 = .slice g 4 c := hown4.slice
  have HO4 : Hid (OwnB w4 w.heap.size (.slice g4 4 c4) (fourI N)) := hown4
  clear hown4 hg4 hb4 HOW HR3 HB3
  go_wp2_with (with_reducible refine wpList_append_bytes rfl (.tmp 32) (.tmp 35) rfl w.heap.size (.slice g4 4 c4) (fourI N) ?_ (HO4.out.alloc _) w4.heap.size 0 1 1 [k] ?_ rfl one_range ?_ ?_ ?_)
  case refine_1 => rfl
  case refine_2 => rfl
  case refine_3 => show 4 + 1 ≤ _; omega
  case refine_4 => have := HB4.out.size; simp; omega
  intro v5 w5 hown5 hg5
  have hb5 : Below w.heap.size w4 w5 := ((Below.refl _ _).alloc HB4.out.size _).trans ((HO4.out.alloc _).below hg5 (by have := HB4.out.size; simp; omega))
  have HB5 := Lib.hid (HB4.out.trans hb5)
  obtain ⟨g5, c5, rfl⟩ : ∃ g c, v5 = .slice g 5 c := hown5.slice
  obtain ⟨pre, hpre⟩ : ∃ pre, pre = fourI N ++ [k] := ⟨_, rfl⟩
  have HPRE := Lib.hid hpre
  have HPL : Hid (pre.length = 5) := by show _ = _; rw [hpre]; rfl
  have HO5 : Hid (OwnB w5 w.heap.size (.slice g5 5 c5) pre) := by rw [hpre]; exact hown5
  clear hpre
  clear hown5 hg5 hb5 HO4 HB4
  go_wp2_with fail
  go_loopw [9, 11, 39] (fun s9 _ s39 wr => ∃ (i c : Nat) (g : Option Addr), i ≤ ps.length ∧ s39 = .int .i64 i ∧ s9 = .slice g (5 + ((ps.take i).flatten).length) c ∧ OwnB wr w.heap.size s9 (pre ++ (ps.take i).flatten) ∧ Below w.heap.size w wr)
    (fun _ _ s39 _ => ps.length - (intOf s39).toNat)
  case atStart => exact ⟨0, c5, g5, by omega, rfl, rfl, by simpa using HO5.out, HB5.out⟩
  case round =>
    clear HO5 HB5
    obtain ⟨i, c, g, hi, rfl, rfl, hO, hB⟩ := hrel
    by_cases hlt : i < ps.length
    · obtain ⟨qb, qo, u, rfl, hql, hcu, hbu⟩ := HPE.out i hlt
      have hcr : wr.cell? ⟨qb, qo + i, none⟩ = some u := by rw [World.cell?_of_block (w := w) (hB.block qb hql)]; exact hcu
      have hle := flat_take_le ps (i + 1)
      have HLE : Hid (((ps.take (i + 1)).flatten).length = ((ps.take i).flatten).length + (ps.getD i []).length) := flat_len_succ ps i hlt
      rw [HLE.out, HN.out] at hle
      have HFT : Hid ((ps.take (i + 1)).flatten = (ps.take i).flatten ++ ps.getD i []) := flat_take_succ ps i hlt
      obtain ⟨ua, uc, rfl⟩ := hbu.slice
      have HBU := Lib.hid hbu
      have HO := Lib.hid hO
      have HB := Lib.hid hB
      have HLN : Hid ((pre ++ (ps.take i).flatten).length = 5 + ((ps.take i).flatten).length) := by show _ = _; rw [List.length_append, HPL.out]
      clear hbu hO hB hcu
      generalize (ps.take i).flatten = ys at *
      generalize ps.getD i [] = p at *
      go_wp2_with (with_reducible refine wpList_append_bytesE rfl (.tmp 43) (.tmp 44) rfl w.heap.size _ _ (pre ++ ys) p ?_ HO.out ?_ HBU.out HB.out ?_ HB.out.size ?_)
      case refine_1 => rfl
      case refine_2 => rfl
      case refine_3 => rw [HLN.out]; omega
      intro v6 w6 hown6 hg6
      have hb6 : Below w.heap.size wr w6 := HO.out.below hg6 HB.out.size
      have hB6 := HB.out.trans hb6
      rw [← HFT.out] at hown6
      obtain ⟨g6, c6, hv6⟩ := hown6.slice
      have HL6 : Hid ((pre ++ (ps.take (i + 1)).flatten).length = 5 + ((ps.take (i + 1)).flatten).length) := by show _ = _; rw [List.length_append, HPL.out]
      rw [HL6.out] at hv6
      subst hv6
      have HO6 := Lib.hid hown6
      have HB6 := Lib.hid hB6
      clear hown6 hg6 hb6 hB6 HO HB
      go_wp2_with fail
      go_roundw
      case rel => exact ⟨i + 1, c6, g6, by omega, by go_num, rfl, HO6.out, HB6.out⟩
      case measure => simp [intOf]; omega
    · obtain rfl : i = ps.length := by omega
      rw [List.take_of_length_le (Nat.le_refl _)] at hO ⊢
      have HALL : Hid (pre ++ ps.flatten = fourI N ++ innerI k ps.flatten) := by show _ = _; rw [HPRE.out, List.append_assoc]; rfl
      have hpb : Byt ps.flatten := Byt.flat fun i hi => (HQ.out i hi).2
      have hib : Byt (innerI k ps.flatten) := fun z hz => by
        rcases List.mem_cons.1 hz with rfl | hz
        · omega
        · exact hpb z hz
      have hil : (innerI k ps.flatten).length = 1 + N := by have := HN.out; show ps.flatten.length + 1 = _; omega
      rw [HALL.out] at hO
      rw [HN.out] at hO ⊢
      have HFR : Hid (frameI k ps.flatten = fourI N ++ (innerI k ps.flatten ++ fourI (sumN (innerI k ps.flatten) : Nat))) := by show _ = _; unfold frameI; rw [HN.out]
      generalize innerI k ps.flatten = inn at *
      obtain ⟨sa, sc, hsl, hsb⟩ := slice_from (.inl hO.bytes) 4 (1 + N) (by rw [List.length_append, hil]; show _ = 4 + _; omega)
      have hdr : (fourI N ++ inn).drop 4 = inn := rfl
      rw [hdr] at hsb
      have hs4 : ∀ w, (Instr.slice 32 (.slice g (5 + N) c) (some (.int .i64 4)) none none).run Tryd.prog w = .ok (.slice sa (1 + N) sc) w := hsl
      have HO := Lib.hid hO
      have HB := Lib.hid hB
      have HSB := Lib.hid hsb
      have HIB := Lib.hid hib
      have HIL := Lib.hid hil
      have hsn : sumN inn < 4294967296 := sumN_lt hib
      clear hO hB hsb hpb hib hil hsl hdr HALL
      go_wp2_with fail
      refine calls_world fun wa hwa => ?_
      have hqa : Blk wa wr.heap.size 32 [.slice sa (1 + N) sc] := by rw [hwa]; exact Blk.new wr 32 [.slice sa (1 + N) sc]
      have hBa : Below wr.heap.size wr wa := by rw [hwa]; exact (Below.refl _ _).alloc (Nat.le_refl _) _
      clear hwa
      have hJ := sum_any (.slice (some ⟨wr.heap.size, 0, none⟩) 1 1) [inn] wa (.inr ⟨wr.heap.size, 0, 1, rfl, hqa.lt, fun i hi => by
        have : i = 0 := by simpa using hi
        subst this
        exact ⟨_, hqa.cell rfl, HSB.out.below hBa⟩⟩) (by simp) (fun i hi => by
        have : i = 0 := by simpa using hi
        subst this
        exact ⟨by show inn.length < _; rw [HIL.out]; omega, HIB.out⟩)
      rw [show [inn].flatten = inn by simp] at hJ
      refine hJ.mono ?_; rintro e w7 ⟨rfl, hb7⟩
      have HB7 := Lib.hid (hBa.trans (hb7.mono (Nat.le_of_lt hqa.lt)))
      clear hJ hqa hBa hb7
      generalize sumN inn = S at *
      go_wp2_with fail
      refine (bytesOf_any _ _).mono ?_; rintro e w8 ⟨rfl, hb8⟩
      have HB8 := Lib.hid (HB7.out.trans (hb8.mono HB7.out.size))
      clear hb8 HB7
      obtain ⟨O2, hO2⟩ : ∃ O2 : List Value, O2 = (fourI (S : Nat)).map (Value.int .u8) := ⟨_, rfl⟩
      have hO2l : O2.toArray.size = 4 := by rw [hO2]; rfl
      have hO21 : O2.toArray.all (·.oneCell') = true := by rw [hO2]; exact all_oneCell_toArray (ones_int _ _)
      rw [← hO2]
      have HO2 := Lib.hid hO2
      clear hO2
      go_upto_region 16 with ((with_reducible refine wpList_store_row rfl 95 (.tmp 12) (.tmp 51) rfl w8.heap.size O2.toArray ?_ ?_ 95 zeros4.toArray ?_ ?_ ?_ ?_ ?_); (exact rfl); (exact rfl); (exact Blk.new w8 _ zeros4); (rw [hO2l]; kernel_rfl); (rw [hO2l]; rfl); (exact hO21))
      refine wp_world fun w9 hw9 => ?_
      have hk9b : Blk w9 w8.heap.size 95 O2 := by rw [hw9]; exact (Blk.new w8 95 zeros4).setRow (cs' := O2)
      have hb9 : Below wr.heap.size wr w9 := by rw [hw9]; exact Below.setRow (HB8.out.alloc HB8.out.size _) HB8.out.size _
      have HB9 := Lib.hid hb9
      have hk9r : w9.rangeAt w8.heap.size 0 ((fourI (S : Nat)).map (Value.int .u8)) := by
        have := hk9b.range 0 O2 fun j v hv => by rw [Nat.zero_add]; exact hv
        rw [← HO2.out]; exact this
      have HR9 := Lib.hid hk9r
      have HO9 : Hid (OwnB w9 w.heap.size (.slice g (5 + N) c) (fourI N ++ inn)) := HO.out.keep hb9
      clear hw9 hk9b hb9 hk9r HO HO2
      go_wp2_with (with_reducible refine wpList_append_bytes rfl (.tmp 52) (.tmp 53) rfl w.heap.size (.slice g (5 + N) c) (fourI N ++ inn) ?_ HO9.out w8.heap.size 0 4 4 (fourI (S : Nat)) ?_ rfl HR9.out ?_ ?_ ?_)
      case refine_1 => rfl
      case refine_2 => rfl
      case refine_3 => rw [List.length_append, HIL.out]; show 4 + _ + 4 ≤ _; omega
      case refine_4 => exact Nat.le_trans HB.out.size HB9.out.size
      intro v10 w10 hown10 hg10
      have hb10 : Below w.heap.size w9 w10 := HO9.out.below hg10 (Nat.le_trans HB.out.size HB9.out.size)
      have hB10 : Below w.heap.size w w10 := HB.out.trans ((HB9.out.mono HB.out.size).trans hb10)
      obtain ⟨g10, c10, hv10⟩ : ∃ g c, v10 = .slice g (N + 9) c := by
        obtain ⟨g', c', h'⟩ := hown10.slice
        exact ⟨g', c', by rw [h', List.length_append, List.length_append, HIL.out]; congr 1; show 4 + (1 + N) + 4 = N + 9; omega⟩
      subst hv10
      have HO10 : Hid (OwnB w10 w.heap.size (.slice g10 (N + 9) c10) (frameI k ps.flatten)) := by
        show OwnB _ _ _ _
        rw [HFR.out, ← List.append_assoc]; exact hown10
      have HB10 := Lib.hid hB10
      clear hown10 hg10 hb10 hB10
      go_wp2_with fail
      go_ret2
      exact ⟨_, rfl, HO10.out, HB10.out⟩
end Go.Proofs.YtpfbiijcmmkjlaaDoor.Fr
