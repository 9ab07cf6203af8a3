/- Package frame: the sum of parts by the table is the sum bit by bit. Package frame: 'Sum', 'Encode'. The reference's sum, a number's bytes and a number out of them, over texts; parts as one text; the document's examples. The reference's bytes of a number, a number of bytes, a frame's bytes; parts as one text. The document's examples: 'awake' answers true. -/
import Derived.Test.YtkdjkmnalkalpaaGreatDoorFrB
namespace Go.Proofs.YtkdjkmnalkalpaaGreatDoor.Fr
open Go.RowKit
set_option maxRecDepth 100000

theorem place (c : Nat) (x : Int) (h0 : 0 ≤ x) (h1 : x ≤ 255) : bits .xor .u8 ((c : Int) % 256) x = ((c % 256 ^^^ x.toNat : Nat) : Int) ∧ c % 256 ^^^ x.toNat < 256 := by
  obtain ⟨b, rfl⟩ : ∃ b : Nat, x = b := ⟨x.toNat, by omega⟩
  have h := u8_xor_nat (c % 256) b (by omega) (by omega)
  exact ⟨by rw [show ((c : Int) % 256) = ((c % 256 : Nat) : Int) by omega, h]; rfl, Nat.xor_lt_two_pow (n := 8) (by omega) (by omega)⟩
theorem turned (c : Nat) (hc : c < 4294967296) (x : Int) (h0 : 0 ≤ x) (h1 : x ≤ 255) : bits .xor .u32 ((c : Int) / 256) ((m8 (c % 256 ^^^ x.toNat) : Nat) : Int) = ((m8 (c ^^^ x.toNat) : Nat) : Int) := by
  have hk := (place c x h0 h1).2
  have h := xor_u32 (c / 256) (m8 (c % 256 ^^^ x.toNat)) (by omega) (m8_lt (by omega))
  rw [m8_split c x.toNat, ← h]; rfl

set_option maxHeartbeats 4000000 in
theorem tsum_any (g : Nat) (v : Value) (ps : List (List Int)) (w : World) (ht : Blk w g 280 (tabI.map (Value.int .u32))) (hp : Parts w v ps) (hm : ps.length < 9223372036854775807)
    (hq : ∀ i, i < ps.length → (ps.getD i []).length < 9223372036854775807 ∧ Byt (ps.getD i [])) :
    Calls Tryz.prog 192 #[.pointer (some ⟨g, 0, none⟩), v] w fun e w' => e = .returned (.int .u32 (sumN ps.flatten : Nat)) ∧ w = w' := by
  obtain ⟨qa, cap, rfl, hpe⟩ := hp.open
  have HP := Lib.hid hpe
  have HQ := Lib.hid hq
  have HT := Lib.hid ht
  have hby : Byt ps.flatten := Byt.flat fun i hi => (hq i hi).2
  have HBY := Lib.hid hby
  clear hpe hq hp ht hby
  go_enter Tryz.func192, Tryz.ntmps192
  go_wp2
  go_loop [5, 12] (fun s5 s12 => ∃ i : Nat, i ≤ ps.length ∧ s12 = .int .i64 i ∧ s5 = .int .u32 ((crcN 4294967295 (ps.take i).flatten : Nat) : Int)) (fun _ s12 => ps.length - (intOf s12).toNat)
  case atStart => exact ⟨0, by omega, rfl, rfl⟩
  case round =>
    obtain ⟨i, hi, rfl, rfl⟩ := hrel
    by_cases hlt : i < ps.length
    · obtain ⟨qb, qo, u, rfl, hql, hcu, hbu⟩ := HP.out i hlt
      obtain ⟨hpl, hpb⟩ := HQ.out i hlt
      have HFT : Hid (crcN 4294967295 (ps.take (i + 1)).flatten = crcN (crcN 4294967295 (ps.take i).flatten) (ps.getD i [])) := by
        show _ = _; rw [flat_take_succ ps i hlt, crcN_append]
      have hc0 : crcN 4294967295 (ps.take i).flatten < 4294967296 := crcN_lt (by omega) _ (fun z hz => HBY.out z (by
        rw [← List.take_append_drop i ps, List.flatten_append]; exact List.mem_append_left _ hz))
      generalize crcN 4294967295 (ps.take i).flatten = C at *
      generalize ps.getD i [] = p at *
      obtain ⟨ua, uc, rfl⟩ := hbu.slice
      have HB := Lib.hid hbu
      have HPB := Lib.hid hpb
      clear hbu hpb
      go_wp2
      go_loop [5, 18] (fun s5 s18 => ∃ j : Nat, j ≤ p.length ∧ s18 = .int .i64 j ∧ s5 = .int .u32 ((crcN C (p.take j) : Nat) : Int)) (fun _ s18 => p.length - (intOf s18).toNat)
      case atStart => exact ⟨0, by omega, rfl, rfl⟩
      case round =>
        obtain ⟨j, hj, rfl, rfl⟩ := hrel
        by_cases hlt2 : j < p.length
        · have hcj : crcN C (p.take j) < 4294967296 := crcN_lt hc0 _ (HPB.out.take j)
          have HFC : Hid (crcN C (p.take (j + 1)) = m8 (crcN C (p.take j) ^^^ (p.getD j 0).toNat)) := crcN_take C p j hlt2
          generalize crcN C (p.take j) = c at *
          obtain ⟨x0, x1⟩ := HPB.out.getD j
          have hce : ∃ pb po, ua = some ⟨pb, po, none⟩ ∧ w.cell? ⟨pb, po + j, none⟩ = some (.int .u8 (p.getD j 0)) := by
            rcases HB.out with (⟨_, h2⟩ | ⟨pb, po, cap, h1, h2, h3, h4⟩) | ⟨ad, cap, h1, h2⟩
            · subst h2; simp at hlt2
            · cases h1
              exact ⟨pb, po, rfl, h4 j _ (by rw [List.getElem?_map, getD_some hlt2]; rfl)⟩
            · subst h2; simp at hlt2
          obtain ⟨pb, po, rfl, hcx⟩ := hce
          generalize p.getD j 0 = x at *
          obtain ⟨hX, hk⟩ := place c x x0 x1
          have HS := Lib.hid (turned c hcj x x0 x1)
          generalize c % 256 ^^^ x.toNat = k at *
          have hct : w.cell? ⟨g, k, none⟩ = some (.int .u32 ((m8 k : Nat) : Int)) := HT.out.cell (tabI_at k hk)
          go_wp2
          go_round
          case rel => exact ⟨j + 1, by omega, by go_num, by rw [HFC.out, HS.out]⟩
          case measure => simp [intOf]; omega
        · obtain rfl : j = p.length := by omega
          rw [List.take_of_length_le (Nat.le_refl _)]
          go_wp2
          go_round
          case rel => exact ⟨i + 1, by omega, by go_num, by rw [HFT.out]⟩
          case measure => simp [intOf]; omega
    · obtain rfl : i = ps.length := by omega
      rw [List.take_of_length_le (Nat.le_refl _)]
      have hlt4 : crcN 4294967295 ps.flatten < 4294967296 := crcN_lt (by omega) _ HBY.out
      have HX : Hid (bits .xor .u32 ((crcN 4294967295 ps.flatten : Nat) : Int) 4294967295 = ((sumN ps.flatten : Nat) : Int)) := xor_all _ hlt4
      generalize crcN 4294967295 ps.flatten = C at *
      go_wp2
      go_ret
      exact ⟨ret_int (HX.out), rfl⟩
end Go.Proofs.YtkdjkmnalkalpaaGreatDoor.Fr
namespace Go.Proofs.YtkdjkmnalkalpaaGreatDoor.Fr
open Go.RowKit
set_option maxRecDepth 100000

set_option maxHeartbeats 1000000 in
theorem sum_any (v : Value) (ps : List (List Int)) (w : World) (hp : Parts w v ps) (hm : ps.length < 9223372036854775807)
    (hq : ∀ i, i < ps.length → (ps.getD i []).length < 9223372036854775807 ∧ Byt (ps.getD i [])) :
    Calls Tryz.prog 147 #[v] w fun e w' => e = .returned (.int .u32 (sumN ps.flatten : Nat)) ∧ Below w.heap.size w w' := by
  have HP := Lib.hid hp
  have HQ := Lib.hid hq
  obtain ⟨qa, cap, rfl, _⟩ := hp.open
  clear hp hq
  go_enter Tryz.func147, Tryz.ntmps147
  go_wp2_with fail
  refine (newTable_any _).mono ?_; rintro e w1 ⟨rfl, hk1, hb1⟩
  have HK := Lib.hid hk1
  have HB := Lib.hid hb1
  clear hk1 hb1
  go_wp2_with fail
  refine (tsum_any _ _ ps w1 HK.out (HP.out.below HB.out) hm HQ.out).mono ?_; rintro e w2 ⟨rfl, rfl⟩
  go_wp2_with fail
  go_ret
  exact ⟨rfl, HB.out⟩

def innerI (k : Int) (p : List Int) : List Int := k :: p
def frameI (k : Int) (p : List Int) : List Int := fourI p.length ++ (innerI k p ++ fourI (sumN (innerI k p) : Nat))
theorem OwnB.keep {w w' : World} {base : Nat} {v : Value} {ys : List Int} (h : OwnB w base v ys) (hb : Below w.heap.size w w') : OwnB w' base v ys := by
  refine ⟨h.1, ?_⟩
  rcases h.2 with h1 | ⟨g, cap, cur, h1, h2, h3, h4⟩
  · exact .inl h1
  · refine .inr ⟨g, cap, cur, h1, h2, ?_, h4⟩
    rw [hb.block g ?_]
    · exact h3
    · by_cases k : g < w.heap.size
      · exact k
      · rw [Array.getElem?_eq_none (by omega)] at h3; cases h3

set_option maxRecDepth 100000 in
set_option maxHeartbeats 4000000 in
theorem encode_any (k : Int) (v : Value) (ps : List (List Int)) (w : World) (hk0 : 1 ≤ k) (hk9 : k ≤ 9) (hp : Parts w v ps) (hm : ps.length < 9223372036854775807)
    (hq : ∀ i, i < ps.length → (ps.getD i []).length < 1000000000000 ∧ Byt (ps.getD i [])) (hn : ps.flatten.length ≤ 8192) :
    Calls Tryz.prog 88 #[.int .i64 k, v] w fun e w' => ∃ v', e = .returned (.tuple #[v', .int .i64 0]) ∧ OwnB w' w.heap.size v' (frameI k ps.flatten) ∧ Below w.heap.size w w' := by
  obtain ⟨qa, cap, rfl, hpe⟩ := hp.open
  have HP := Lib.hid hp
  have HPE := Lib.hid hpe
  have HQ := Lib.hid hq
  have HSZ : Hid (sizeR ps.flatten.length = .tuple #[.int .i64 ps.flatten.length, .bool true]) := by show _ = _; unfold sizeR; rw [if_pos hn]
  clear hp hpe hq
  go_enter Tryz.func88, Tryz.ntmps88
  have hdk : decide (1 ≤ k ∧ k ≤ 9) = true := by simp [hk0, hk9]
  go_wp2_with fail
  refine (isKind_any _ _).mono ?_; rintro e w' ⟨rfl, rfl⟩
  rw [hdk]
  clear hdk
  go_wp2_with fail
  refine (payloadSize_any _ ps w HP.out hm (fun i hi => (HQ.out i hi).1)).mono ?_; rintro e w' ⟨rfl, rfl⟩
  rw [HSZ.out]
  generalize hN : ps.flatten.length = N at *
  have HN := Lib.hid hN
  clear hN HSZ
  go_wp2_with fail
  refine (bytesOf_any _ _).mono ?_; rintro e w1 ⟨rfl, hb1⟩
  have HB1 := Lib.hid hb1
  clear hb1
  obtain ⟨O, hO⟩ : ∃ O : List Value, O = (fourI N).map (Value.int .u8) := ⟨_, rfl⟩
  have hOl : O.toArray.size = 4 := by rw [hO]; rfl
  have hO1 : O.toArray.all (·.oneCell') = true := by rw [hO]; exact all_oneCell_toArray (ones_int _ _)
  rw [← hO]
  have HO := Lib.hid hO
  clear hO
  go_upto_region 7 with ((with_reducible refine wpList_store_row rfl 227 (.tmp 8) (.tmp 25) rfl w1.heap.size O.toArray ?_ ?_ 227 zeros4.toArray ?_ ?_ ?_ ?_ ?_); (exact rfl); (exact rfl); (exact Blk.new w1 _ zeros4); (rw [hOl]; kernel_rfl); (rw [hOl]; rfl); (exact hO1))
  refine wp_world fun w2 hw2 => ?_
  have hk2 : Blk w2 w1.heap.size 227 O := by rw [hw2]; exact (Blk.new w1 227 zeros4).setRow (cs' := O)
  have hB2 : Below w.heap.size w w2 := by rw [hw2]; exact Below.setRow (HB1.out.alloc HB1.out.size _) HB1.out.size _
  have HB2 := Lib.hid hB2
  have HK2 := Lib.hid hk2
  clear hw2 hk2 hB2
  obtain ⟨i0, hi, hz0, hz1, hz2⟩ := info_parts byteInfo
  have HI := Lib.hid hi
  have HZ0 := Lib.hid hz0
  have HZ1 := Lib.hid hz1
  have HZ2 := Lib.hid hz2
  clear hi hz0 hz1 hz2
  go_wp2_with (with_reducible refine wpList_make_own w2 rfl (.const (.int .i64 0)) (.tmp 27) 38 rfl w.heap.size 5 i0 (.int .u8 0) 1 Tryz.underlying38 HI.out HZ0.out HZ1.out .i64 .i64 ((N + 9 : Nat) : Int) (N + 9) ?_ ?_ rfl ?_ ?_ ?_ ?_)
  case refine_1 => rfl
  case refine_2 => rfl
  case refine_3 => rw [HZ2.out]; omega
  case refine_4 => unfold maxLen; omega
  case refine_5 => exact HB2.out.size
  intro w3 hown hg3
  have hbe : Below w2.heap.size w2 w3 := (Below.refl _ _).grown hg3 (Nat.le_refl _) fun _ h => by cases h
  have hk3 : Blk w3 w1.heap.size 227 O := Below.blk hbe HK2.out.lt HK2.out
  have HB3 := Lib.hid (HB2.out.trans (hbe.mono HB2.out.size))
  have HOW : Hid (OwnB w3 w.heap.size (.slice (some ⟨w2.heap.size, 0, none⟩) 0 (N + 9)) []) := hown
  have hk3r : w3.rangeAt w1.heap.size 0 ((fourI N).map (Value.int .u8)) := by
    have := hk3.range 0 O fun j v hv => by rw [Nat.zero_add]; exact hv
    rw [← HO.out]; exact this
  have HR3 := Lib.hid hk3r
  clear hown hg3 hbe hk3 hk3r HI HZ0 HZ1 HZ2 HK2 HB2
  go_wp2_with (with_reducible refine wpList_append_bytes rfl (.tmp 29) (.tmp 30) rfl w.heap.size (.slice (some ⟨w2.heap.size, 0, none⟩) 0 (N + 9)) [] ?_ HOW.out w1.heap.size 0 4 4 (fourI N) ?_ rfl HR3.out ?_ HB3.out.size ?_)
  case refine_1 => rfl
  case refine_2 => rfl
  case refine_3 => simp
  intro v4 w4 hown4 hg4
  have hb4 := HOW.out.below hg4 HB3.out.size
  have HB4 := Lib.hid (HB3.out.trans hb4)
  obtain ⟨g4, c4, rfl⟩ : ∃ g c, v4 = .slice g 4 c := hown4.slice
  have HO4 : Hid (OwnB w4 w.heap.size (.slice g4 4 c4) (fourI N)) := hown4
  clear hown4 hg4 hb4 HOW HR3 HB3
  go_wp2_with (with_reducible refine wpList_append_bytes rfl (.tmp 32) (.tmp 35) rfl w.heap.size (.slice g4 4 c4) (fourI N) ?_ (HO4.out.alloc _) w4.heap.size 0 1 1 [k] ?_ rfl one_range ?_ ?_ ?_)
  case refine_1 => rfl
  case refine_2 => rfl
  case refine_3 => show 4 + 1 ≤ _; omega
  case refine_4 => have := HB4.out.size; simp; omega
  intro v5 w5 hown5 hg5
  have hb5 : Below w.heap.size w4 w5 := ((Below.refl _ _).alloc HB4.out.size _).trans ((HO4.out.alloc _).below hg5 (by have := HB4.out.size; simp; omega))
  have HB5 := Lib.hid (HB4.out.trans hb5)
  obtain ⟨g5, c5, rfl⟩ : ∃ g c, v5 = .slice g 5 c := hown5.slice
  obtain ⟨pre, hpre⟩ : ∃ pre, pre = fourI N ++ [k] := ⟨_, rfl⟩
  have HPRE := Lib.hid hpre
  have HPL : Hid (pre.length = 5) := by show _ = _; rw [hpre]; rfl
  have HO5 : Hid (OwnB w5 w.heap.size (.slice g5 5 c5) pre) := by rw [hpre]; exact hown5
  clear hpre
  clear hown5 hg5 hb5 HO4 HB4
  go_wp2_with fail
  go_loopw [9, 11, 39] (fun s9 _ s39 wr => ∃ (i c : Nat) (g : Option Addr), i ≤ ps.length ∧ s39 = .int .i64 i ∧ s9 = .slice g (5 + ((ps.take i).flatten).length) c ∧ OwnB wr w.heap.size s9 (pre ++ (ps.take i).flatten) ∧ Below w.heap.size w wr)
    (fun _ _ s39 _ => ps.length - (intOf s39).toNat)
  case atStart => exact ⟨0, c5, g5, by omega, rfl, rfl, by simpa using HO5.out, HB5.out⟩
  case round =>
    clear HO5 HB5
    obtain ⟨i, c, g, hi, rfl, rfl, hO, hB⟩ := hrel
    by_cases hlt : i < ps.length
    · obtain ⟨qb, qo, u, rfl, hql, hcu, hbu⟩ := HPE.out i hlt
      have hcr : wr.cell? ⟨qb, qo + i, none⟩ = some u := by rw [World.cell?_of_block (w := w) (hB.block qb hql)]; exact hcu
      have hle := flat_take_le ps (i + 1)
      have HLE : Hid (((ps.take (i + 1)).flatten).length = ((ps.take i).flatten).length + (ps.getD i []).length) := flat_len_succ ps i hlt
      rw [HLE.out, HN.out] at hle
      have HFT : Hid ((ps.take (i + 1)).flatten = (ps.take i).flatten ++ ps.getD i []) := flat_take_succ ps i hlt
      obtain ⟨ua, uc, rfl⟩ := hbu.slice
      have HBU := Lib.hid hbu
      have HO := Lib.hid hO
      have HB := Lib.hid hB
      have HLN : Hid ((pre ++ (ps.take i).flatten).length = 5 + ((ps.take i).flatten).length) := by show _ = _; rw [List.length_append, HPL.out]
      clear hbu hO hB hcu
      generalize (ps.take i).flatten = ys at *
      generalize ps.getD i [] = p at *
      go_wp2_with (with_reducible refine wpList_append_bytesE rfl (.tmp 43) (.tmp 44) rfl w.heap.size _ _ (pre ++ ys) p ?_ HO.out ?_ HBU.out HB.out ?_ HB.out.size ?_)
      case refine_1 => rfl
      case refine_2 => rfl
      case refine_3 => rw [HLN.out]; omega
      intro v6 w6 hown6 hg6
      have hb6 : Below w.heap.size wr w6 := HO.out.below hg6 HB.out.size
      have hB6 := HB.out.trans hb6
      rw [← HFT.out] at hown6
      obtain ⟨g6, c6, hv6⟩ := hown6.slice
      have HL6 : Hid ((pre ++ (ps.take (i + 1)).flatten).length = 5 + ((ps.take (i + 1)).flatten).length) := by show _ = _; rw [List.length_append, HPL.out]
      rw [HL6.out] at hv6
      subst hv6
      have HO6 := Lib.hid hown6
      have HB6 := Lib.hid hB6
      clear hown6 hg6 hb6 hB6 HO HB
      go_wp2_with fail
      go_roundw
      case rel => exact ⟨i + 1, c6, g6, by omega, by go_num, rfl, HO6.out, HB6.out⟩
      case measure => simp [intOf]; omega
    · obtain rfl : i = ps.length := by omega
      rw [List.take_of_length_le (Nat.le_refl _)] at hO ⊢
      have HALL : Hid (pre ++ ps.flatten = fourI N ++ innerI k ps.flatten) := by show _ = _; rw [HPRE.out, List.append_assoc]; rfl
      have hpb : Byt ps.flatten := Byt.flat fun i hi => (HQ.out i hi).2
      have hib : Byt (innerI k ps.flatten) := fun z hz => by
        rcases List.mem_cons.1 hz with rfl | hz
        · omega
        · exact hpb z hz
      have hil : (innerI k ps.flatten).length = 1 + N := by have := HN.out; show ps.flatten.length + 1 = _; omega
      rw [HALL.out] at hO
      rw [HN.out] at hO ⊢
      have HFR : Hid (frameI k ps.flatten = fourI N ++ (innerI k ps.flatten ++ fourI (sumN (innerI k ps.flatten) : Nat))) := by show _ = _; unfold frameI; rw [HN.out]
      generalize innerI k ps.flatten = inn at *
      obtain ⟨sa, sc, hsl, hsb⟩ := slice_from (.inl hO.bytes) 4 (1 + N) (by rw [List.length_append, hil]; show _ = 4 + _; omega)
      have hdr : (fourI N ++ inn).drop 4 = inn := rfl
      rw [hdr] at hsb
      have hs4 : ∀ w, (Instr.slice 38 (.slice g (5 + N) c) (some (.int .i64 4)) none none).run Tryz.prog w = .ok (.slice sa (1 + N) sc) w := hsl
      have HO := Lib.hid hO
      have HB := Lib.hid hB
      have HSB := Lib.hid hsb
      have HIB := Lib.hid hib
      have HIL := Lib.hid hil
      have hsn : sumN inn < 4294967296 := sumN_lt hib
      clear hO hB hsb hpb hib hil hsl hdr HALL
      go_wp2_with fail
      refine calls_world fun wa hwa => ?_
      have hqa : Blk wa wr.heap.size 38 [.slice sa (1 + N) sc] := by rw [hwa]; exact Blk.new wr 38 [.slice sa (1 + N) sc]
      have hBa : Below wr.heap.size wr wa := by rw [hwa]; exact (Below.refl _ _).alloc (Nat.le_refl _) _
      clear hwa
      have hJ := sum_any (.slice (some ⟨wr.heap.size, 0, none⟩) 1 1) [inn] wa (.inr ⟨wr.heap.size, 0, 1, rfl, hqa.lt, fun i hi => by
        have : i = 0 := by simpa using hi
        subst this
        exact ⟨_, hqa.cell rfl, HSB.out.below hBa⟩⟩) (by simp) (fun i hi => by
        have : i = 0 := by simpa using hi
        subst this
        exact ⟨by show inn.length < _; rw [HIL.out]; omega, HIB.out⟩)
      rw [show [inn].flatten = inn by simp] at hJ
      refine hJ.mono ?_; rintro e w7 ⟨rfl, hb7⟩
      have HB7 := Lib.hid (hBa.trans (hb7.mono (Nat.le_of_lt hqa.lt)))
      clear hJ hqa hBa hb7
      generalize sumN inn = S at *
      go_wp2_with fail
      refine (bytesOf_any _ _).mono ?_; rintro e w8 ⟨rfl, hb8⟩
      have HB8 := Lib.hid (HB7.out.trans (hb8.mono HB7.out.size))
      clear hb8 HB7
      obtain ⟨O2, hO2⟩ : ∃ O2 : List Value, O2 = (fourI (S : Nat)).map (Value.int .u8) := ⟨_, rfl⟩
      have hO2l : O2.toArray.size = 4 := by rw [hO2]; rfl
      have hO21 : O2.toArray.all (·.oneCell') = true := by rw [hO2]; exact all_oneCell_toArray (ones_int _ _)
      rw [← hO2]
      have HO2 := Lib.hid hO2
      clear hO2
      go_upto_region 16 with ((with_reducible refine wpList_store_row rfl 227 (.tmp 12) (.tmp 51) rfl w8.heap.size O2.toArray ?_ ?_ 227 zeros4.toArray ?_ ?_ ?_ ?_ ?_); (exact rfl); (exact rfl); (exact Blk.new w8 _ zeros4); (rw [hO2l]; kernel_rfl); (rw [hO2l]; rfl); (exact hO21))
      refine wp_world fun w9 hw9 => ?_
      have hk9b : Blk w9 w8.heap.size 227 O2 := by rw [hw9]; exact (Blk.new w8 227 zeros4).setRow (cs' := O2)
      have hb9 : Below wr.heap.size wr w9 := by rw [hw9]; exact Below.setRow (HB8.out.alloc HB8.out.size _) HB8.out.size _
      have HB9 := Lib.hid hb9
      have hk9r : w9.rangeAt w8.heap.size 0 ((fourI (S : Nat)).map (Value.int .u8)) := by
        have := hk9b.range 0 O2 fun j v hv => by rw [Nat.zero_add]; exact hv
        rw [← HO2.out]; exact this
      have HR9 := Lib.hid hk9r
      have HO9 : Hid (OwnB w9 w.heap.size (.slice g (5 + N) c) (fourI N ++ inn)) := HO.out.keep hb9
      clear hw9 hk9b hb9 hk9r HO HO2
      go_wp2_with (with_reducible refine wpList_append_bytes rfl (.tmp 52) (.tmp 53) rfl w.heap.size (.slice g (5 + N) c) (fourI N ++ inn) ?_ HO9.out w8.heap.size 0 4 4 (fourI (S : Nat)) ?_ rfl HR9.out ?_ ?_ ?_)
      case refine_1 => rfl
      case refine_2 => rfl
      case refine_3 => rw [List.length_append, HIL.out]; show 4 + _ + 4 ≤ _; omega
      case refine_4 => exact Nat.le_trans HB.out.size HB9.out.size
      intro v10 w10 hown10 hg10
      have hb10 : Below w.heap.size w9 w10 := HO9.out.below hg10 (Nat.le_trans HB.out.size HB9.out.size)
      have hB10 : Below w.heap.size w w10 := HB.out.trans ((HB9.out.mono HB.out.size).trans hb10)
      obtain ⟨g10, c10, hv10⟩ : ∃ g c, v10 = .slice g (N + 9) c := by
        obtain ⟨g', c', h'⟩ := hown10.slice
        exact ⟨g', c', by rw [h', List.length_append, List.length_append, HIL.out]; congr 1; show 4 + (1 + N) + 4 = N + 9; omega⟩
      subst hv10
      have HO10 : Hid (OwnB w10 w.heap.size (.slice g10 (N + 9) c10) (frameI k ps.flatten)) := by
        show OwnB _ _ _ _
        rw [HFR.out, ← List.append_assoc]; exact hown10
      have HB10 := Lib.hid hB10
      clear hown10 hg10 hb10 hB10
      go_wp2_with fail
      go_ret2
      exact ⟨_, rfl, HO10.out, HB10.out⟩
end Go.Proofs.YtkdjkmnalkalpaaGreatDoor.Fr
namespace Go.Proofs.YtkdjkmnalkalpaaGreatDoor.Fr
open Go.RowKit
set_option maxRecDepth 100000

theorem str_at (z : List Int) (hy : Byt z) (j : Nat) (hj : j < z.length) (w : World) :
    (Instr.index 9 (.string (strOfNums z)) (.int .i64 j)).run Tryz.prog w = .ok (.int .u8 (z.getD j 0)) w := by
  have ⟨h0, h1⟩ := hy.getD j
  rw [run_index_string w _ _ _ _ Tryz.underlying9, dif_pos ⟨by omega, by rw [strOfNums_size]; omega⟩]
  refine congrArg (fun y => Result.ok (Value.int .u8 y) w) ?_
  have e : z.getD j 0 = z[j] := by rw [List.getD_eq_getElem?_getD, List.getElem?_eq_getElem hj]; rfl
  rw [e] at h0 h1 ⊢
  show (((z.map fun n => UInt8.ofNat n.toNat).toArray[j]'(by simpa using hj)).toNat : Int) = z[j]
  simp only [List.getElem_toArray, List.getElem_map, UInt8.toNat_ofNat']
  omega

set_option maxHeartbeats 4000000 in
theorem refSum_any (z : List Int) (hy : Byt z) (hl : z.length ≤ 100000) (w : World) :
    Calls Tryz.prog 157 #[.string (strOfNums z)] w fun e w' => e = .returned (.int .u32 (sumN z : Nat)) ∧ w = w' := by
  obtain ⟨S, hS⟩ : ∃ S, S = strOfNums z := ⟨_, rfl⟩
  have hsz : S.size = z.length := by rw [hS]; exact strOfNums_size z
  have HAT : Hid (∀ j, j < z.length → ∀ w, (Instr.index 9 (.string S) (.int .i64 j)).run Tryz.prog w = .ok (.int .u8 (z.getD j 0)) w) := by
    show ∀ _, _; intro j hj w; rw [hS]; exact str_at z hy j hj w
  rw [← hS]
  have HY := Lib.hid hy
  clear hS hy
  go_enter Tryz.func157, Tryz.ntmps157
  go_wp2
  go_loop [3, 4, 5, 6] (fun s3 s4 _ _ => ∃ i : Nat, i ≤ z.length ∧ s4 = .int .i64 i ∧ s3 = .int .u32 ((crcN 4294967295 (z.take i) : Nat) : Int)) (fun _ s4 _ _ => z.length - (intOf s4).toNat)
  case atStart => exact ⟨0, by omega, rfl, rfl⟩
  case round =>
    obtain ⟨i, hi, rfl, rfl⟩ := hrel
    by_cases hlt : i < z.length
    · have hcj : crcN 4294967295 (z.take i) < 4294967296 := crcN_lt (by omega) _ (HY.out.take i)
      have HFC : Hid (crcN 4294967295 (z.take (i + 1)) = m8 (crcN 4294967295 (z.take i) ^^^ (z.getD i 0).toNat)) := crcN_take 4294967295 z i hlt
      obtain ⟨x0, x1⟩ := HY.out.getD i
      have hat := HAT.out i hlt
      generalize crcN 4294967295 (z.take i) = c at *
      generalize z.getD i 0 = x at *
      obtain ⟨b, hb⟩ : ∃ b : Nat, x = b := ⟨x.toNat, by omega⟩
      subst hb
      rw [Int.toNat_natCast] at HFC
      have hxx := xor_u32 c b hcj (by omega)
      have hcx : c ^^^ b < 4294967296 := Nat.xor_lt_two_pow (n := 32) hcj (by omega)
      generalize c ^^^ b = n at *
      go_wp2
      go_loop [3, 5, 6] (fun s3 s5 _ => ∃ k : Nat, k ≤ 8 ∧ s5 = .int .i64 k ∧ s3 = .int .u32 (mv k n : Nat)) (fun _ s5 _ => 8 - (intOf s5).toNat)
      case atStart => exact ⟨0, by omega, rfl, rfl⟩
      case round =>
        obtain ⟨k, hk, rfl, rfl⟩ := hrel
        have hm := mv_lt hcx k
        have HN : Hid (mv (k + 1) n = m1 (mv k n)) := rfl
        by_cases hlt8 : k < 8
        · have li : (k : Int) < 8 := by omega
          generalize mv k n = m at *
          have hd : m / 2 < 4294967296 := by omega
          by_cases ho : m % 2 = 1
          · have ha : (m : Int) % 2 = 1 := by omega
            have HX : Hid (bits .xor .u32 ((m : Int) / 2) 2197175160 = ((m1 m : Nat) : Int)) := by
              show _ = _
              have := xor_poly (m / 2) hd
              unfold m1; rw [if_pos ho, ← this]; rfl
            clear ho hd hat hxx
            go_wp2
            go_round
            case rel => exact ⟨k + 1, by omega, by go_num, by rw [HN.out, ← HX.out]⟩
            case measure => simp [intOf]; omega
          · have ha : (m : Int) % 2 = 0 := by omega
            have HX : Hid ((m : Int) / 2 = ((m1 m : Nat) : Int)) := by
              show _ = _
              unfold m1; rw [if_neg ho]; rfl
            clear ho hd hat hxx
            go_wp2
            go_round
            case rel => exact ⟨k + 1, by omega, by go_num, by rw [HN.out, ← HX.out]⟩
            case measure => simp [intOf]; omega
        · obtain rfl : k = 8 := by omega
          have HM : Hid (m8 n = mv 8 n) := rfl
          go_wp2
          go_round
          case rel => exact ⟨i + 1, by omega, by go_num, by rw [HFC.out, HM.out]⟩
          case measure => simp [intOf]; omega
    · obtain rfl : i = z.length := by omega
      rw [List.take_of_length_le (Nat.le_refl _)]
      have hlt4 : crcN 4294967295 z < 4294967296 := crcN_lt (by omega) _ HY.out
      have HX : Hid (bits .xor .u32 ((crcN 4294967295 z : Nat) : Int) 4294967295 = ((sumN z : Nat) : Int)) := xor_all _ hlt4
      generalize crcN 4294967295 z = C at *
      go_wp2
      go_ret
      exact ⟨ret_int (HX.out), rfl⟩
end Go.Proofs.YtkdjkmnalkalpaaGreatDoor.Fr
namespace Go.Proofs.YtkdjkmnalkalpaaGreatDoor.Fr
open Go.RowKit
set_option maxRecDepth 100000

theorem four_conv (w : World) (a b c d : Int) : (convert 38 9 (.slice (some ⟨w.heap.size, 0, none⟩) 4 4)).run Tryz.prog (w.alloc (.cells #[.int .u8 a, .int .u8 b, .int .u8 c, .int .u8 d] 5)) = .ok (.string (strOfNums [a, b, c, d])) (w.alloc (.cells #[.int .u8 a, .int .u8 b, .int .u8 c, .int .u8 d] 5)) :=
  run_string (p := [a, b, c, d]) (Or.inr ⟨w.heap.size, 0, 4, rfl, Nat.le_refl _, by show w.heap.size < (w.alloc _).heap.size; simp, (Blk.new w 5 ([a, b, c, d].map (Value.int .u8))).range 0 _ fun j v hv => by rw [Nat.zero_add]; exact hv⟩)
theorem one_conv (w : World) (a : Int) : (convert 38 9 (.slice (some ⟨w.heap.size, 0, none⟩) 1 1)).run Tryz.prog (w.alloc (.cells #[.int .u8 a] 5)) = .ok (.string (strOfNums [a])) (w.alloc (.cells #[.int .u8 a] 5)) :=
  run_string (p := [a]) (Or.inr ⟨w.heap.size, 0, 1, rfl, Nat.le_refl _, by show w.heap.size < (w.alloc _).heap.size; simp, (Blk.new w 5 ([a].map (Value.int .u8))).range 0 _ fun j v hv => by rw [Nat.zero_add]; exact hv⟩)
theorem ret_str {a b : ByteArray} (h : a = b) : Ending.returned (.string a) = .returned (.string b) := by rw [h]

set_option maxHeartbeats 1000000 in
theorem four_any (n : Nat) (hn : n < 4294967296) (w : World) :
    Calls Tryz.prog 156 #[.int .u32 (n : Int)] w fun e w' => e = .returned (.string (strOfNums (fourI n))) ∧ Below w.heap.size w w' := by
  have hcv := four_conv
  go_enter Tryz.func156, Tryz.ntmps156
  go_wp2
  go_ret
  refine ⟨ret_str (congrArg strOfNums ?_), (Below.refl _ _).alloc (Nat.le_refl _) _⟩
  unfold fourI
  rw [Int.emod_eq_of_lt (a := (n : Int) / 16777216) (by omega) (by omega)]

set_option maxHeartbeats 1000000 in
theorem number_any (z : List Int) (hy : Byt z) (hl : 4 ≤ z.length) (w : World) :
    Calls Tryz.prog 158 #[.string (strOfNums z)] w fun e w' => e = .returned (.int .i64 (numI z)) ∧ ∃ k, w' = w.drewN k := by
  have a0 : ∀ w, (Instr.index 9 (.string (strOfNums z)) (.int .i64 0)).run Tryz.prog w = .ok (.int .u8 (z.getD 0 0)) w := fun w => str_at z hy 0 (by omega) w
  have a1 : ∀ w, (Instr.index 9 (.string (strOfNums z)) (.int .i64 1)).run Tryz.prog w = .ok (.int .u8 (z.getD 1 0)) w := fun w => str_at z hy 1 (by omega) w
  have a2 : ∀ w, (Instr.index 9 (.string (strOfNums z)) (.int .i64 2)).run Tryz.prog w = .ok (.int .u8 (z.getD 2 0)) w := fun w => str_at z hy 2 (by omega) w
  have a3 : ∀ w, (Instr.index 9 (.string (strOfNums z)) (.int .i64 3)).run Tryz.prog w = .ok (.int .u8 (z.getD 3 0)) w := fun w => str_at z hy 3 (by omega) w
  have b0 := hy.getD 0
  have b1 := hy.getD 1
  have b2 := hy.getD 2
  have b3 := hy.getD 3
  have HN := Lib.hid (numI_is z)
  generalize z.getD 0 0 = x0 at *
  generalize z.getD 1 0 = x1 at *
  generalize z.getD 2 0 = x2 at *
  generalize z.getD 3 0 = x3 at *
  generalize strOfNums z = S at *
  clear hy hl
  have e1 : IntKind.i64.wrap (256 * x1) = 256 * x1 := IntWalk.i64_in _ (by omega)
  have e2 : IntKind.i64.wrap (65536 * x2) = 65536 * x2 := IntWalk.i64_in _ (by omega)
  have e3 : IntKind.i64.wrap (16777216 * x3) = 16777216 * x3 := IntWalk.i64_in _ (by omega)
  have f1 : IntKind.i64.wrap (x0 + 256 * x1) = x0 + 256 * x1 := IntWalk.i64_in _ (by omega)
  have f2 : IntKind.i64.wrap (x0 + 256 * x1 + 65536 * x2) = x0 + 256 * x1 + 65536 * x2 := IntWalk.i64_in _ (by omega)
  have f3 : IntKind.i64.wrap (x0 + 256 * x1 + 65536 * x2 + 16777216 * x3) = x0 + 256 * x1 + 65536 * x2 + 16777216 * x3 := IntWalk.i64_in _ (by omega)
  have g0 : IntKind.i64.wrap x0 = x0 := IntWalk.i64_in _ (by omega)
  have g1 : IntKind.i64.wrap x1 = x1 := IntWalk.i64_in _ (by omega)
  have g2 : IntKind.i64.wrap x2 = x2 := IntWalk.i64_in _ (by omega)
  have g3 : IntKind.i64.wrap x3 = x3 := IntWalk.i64_in _ (by omega)
  go_enter Tryz.func158, Tryz.ntmps158
  go_wp2
  go_quiet (fail)
  go_wp2
  go_ret
  exact ⟨ret_int (by rw [HN.out]; omega), _, rfl⟩

set_option maxHeartbeats 1000000 in
theorem refEncode_any (k : Int) (p : List Int) (w : World) (hk0 : 1 ≤ k) (hk9 : k ≤ 9) (hy : Byt p) (hl : p.length ≤ 8192) :
    Calls Tryz.prog 95 #[.int .i64 k, .string (strOfNums p)] w fun e w' => e = .returned (.tuple #[.string (strOfNums (frameI k p)), .int .i64 0]) ∧ Below w.heap.size w w' := by
  have HI : Hid (strOfNums [k] ++ strOfNums p = strOfNums (innerI k p)) := by show _ = _; rw [← strOfNums_append]; rfl
  have HIY : Hid (Byt (innerI k p)) := fun z hz => by
    rcases List.mem_cons.1 hz with rfl | hz
    · omega
    · exact hy z hz
  have HIL : Hid ((innerI k p).length = p.length + 1) := rfl
  have HF : Hid (strOfNums (frameI k p) = strOfNums (fourI p.length) ++ strOfNums (innerI k p) ++ strOfNums (fourI (sumN (innerI k p) : Nat))) := by show _ = _; unfold frameI; rw [strOfNums_append, strOfNums_append, ByteArray.append_assoc]
  obtain ⟨S, hS⟩ : ∃ S, S = strOfNums p := ⟨_, rfl⟩
  have hsz : S.size = p.length := by rw [hS]; exact strOfNums_size p
  obtain ⟨K, hK⟩ : ∃ K, K = strOfNums [k] := ⟨_, rfl⟩
  have hksz : K.size = 1 := by rw [hK]; exact strOfNums_size [k]
  have hcv : ∀ w : World, (convert 38 9 (.slice (some ⟨w.heap.size, 0, none⟩) 1 1)).run Tryz.prog (w.alloc (.cells #[.int .u8 k] 5)) = .ok (.string K) (w.alloc (.cells #[.int .u8 k] 5)) := fun w => by rw [hK]; exact one_conv w k
  rw [← hS, ← hK] at HI
  rw [← hS]
  have HS := Lib.hid hS
  have HK := Lib.hid hK
  clear hS hK hy
  generalize p.length = n at *
  have hno1 : ¬ 9223372036854775807 < 1 + n := by omega
  go_enter Tryz.func95, Tryz.ntmps95
  go_wp2_with fail
  refine (four_any _ (by omega) _).mono ?_; rintro e w1 ⟨rfl, hb1⟩
  have HB1 := Lib.hid hb1
  clear hb1
  obtain ⟨F, hF⟩ : ∃ F, F = strOfNums (fourI n) := ⟨_, rfl⟩
  have hfz : F.size = 4 := by rw [hF]; exact strOfNums_size _
  rw [← hF]
  have HFF := Lib.hid hF
  clear hF
  have hno2 : ¬ 9223372036854775807 < 4 + (1 + n) := by omega
  have CS := Lib.hid (fun w => refSum_any _ HIY.out (by rw [HIL.out]; omega) w)
  obtain ⟨I, hI⟩ : ∃ I, I = strOfNums (innerI k p) := ⟨_, rfl⟩
  have hiz : I.size = 1 + n := by rw [hI, strOfNums_size, HIL.out]; omega
  rw [← hI] at HI HF CS
  clear hI
  go_wp2_with fail
  rw [HI.out]
  refine (CS.out _).mono ?_; rintro e w2 ⟨rfl, rfl⟩
  have hs4 : sumN (innerI k p) < 4294967296 := sumN_lt HIY.out
  go_wp2_with fail
  refine (four_any _ hs4 _).mono ?_; rintro e w3 ⟨rfl, hb3⟩
  have HB3 := Lib.hid (HB1.out.trans (hb3.mono HB1.out.size))
  clear hb3
  obtain ⟨G, hG⟩ : ∃ G, G = strOfNums (fourI (sumN (innerI k p) : Nat)) := ⟨_, rfl⟩
  have hgz : G.size = 4 := by rw [hG]; exact strOfNums_size _
  rw [← hG]
  rw [← HFF.out, ← hG] at HF
  clear hG
  have hno3 : ¬ 9223372036854775807 < 4 + (1 + n) + 4 := by omega
  go_wp2_with fail
  go_ret2
  exact ⟨by rw [HF.out]; rfl, ((Below.refl _ _).alloc (Nat.le_refl _) _).trans (HB3.out.mono (by simp))⟩

end Go.Proofs.YtkdjkmnalkalpaaGreatDoor.Fr
namespace Go.Proofs.YtkdjkmnalkalpaaGreatDoor.Fr
open Go.RowKit
set_option maxRecDepth 100000

end Go.Proofs.YtkdjkmnalkalpaaGreatDoor.Fr
