/- The reference's digest is the program's: its walk. -/
import Derived.Test.YtigpccfglicjeaaRefBase
namespace Go.Proofs.Ytigpccfglicjeaa
open Go.RowKit

set_option maxRecDepth 100000 in
set_option maxHeartbeats 40000000 in
theorem refSum_any (v : Value) (p : List Int) (w : World) (hp : Bytes w v p) (hn : p.length < 67108864) :
    Calls Try.prog 11 #[v] w fun e w' => e = .returned (.agg ((sumI p).map (Value.int .u8)).toArray) ∧ Below w.heap.size w w' := by
  obtain ⟨va, vc, rfl⟩ := hp.slice'
  obtain ⟨KV, hKV⟩ : ∃ KV : List Value, KV = kTab.map (Value.int .u32) := ⟨_, rfl⟩
  obtain ⟨HV, hHV⟩ : ∃ HV : List Value, HV = hTab.map (Value.int .u32) := ⟨_, rfl⟩
  have hKVl : KV.length = 64 := by rw [hKV]; rfl
  have hHVl : HV.length = 8 := by rw [hHV]; rfl
  have hKVo : KV.toArray.all (·.oneCell') = true := by rw [hKV]; exact all_oneCell_toArray (ones_int _ _)
  have hHVo : HV.toArray.all (·.oneCell') = true := by rw [hHV]; exact all_oneCell_toArray (ones_int _ _)
  have HKV := Lib.hid hKV
  have HHV := Lib.hid hHV
  clear hKV hHV
  go_enter Try.func11, Try.ntmps11
  go_upto_region 2 with (first
    | ((with_reducible refine wpList_build_is rfl 46 _ rfl KV.toArray ?_ ?_); (rw [HKV.out]; kernel_rfl))
    | ((with_reducible refine wpList_store_row rfl 46 (.tmp 3) (.tmp 22) rfl (w.heap.size + 1) KV.toArray ?_ ?_ 46 (fill 64 (.int .u32 0) []).toArray ?_ ?_ ?_ ?_ ?_); (exact rfl); (exact rfl); (exact heap_alloc2_new _ _ _); (rw [List.size_toArray, hKVl]; kernel_rfl); (rw [List.size_toArray, List.size_toArray, hKVl]; rfl); (exact hKVo)))
  refine wp_world fun w1 hw1 => ?_
  have hz1 : w.heap.size + 1 < w1.heap.size := by rw [hw1]; simp
  have hR1 : Blk w1 w.heap.size 24 ((zerosI 32).map (Value.int .u8)) := by
    rw [hw1]; unfold Blk; rw [setRow_other _ _ _ _ (by omega)]; exact (Blk.new w 24 ((zerosI 32).map (Value.int .u8))).alloc _
  have hK1 : Blk w1 (w.heap.size + 1) 46 KV := by
    rw [hw1]
    refine Blk.setRow (cs := fill 64 (.int .u32 0) []) (cs' := KV) ?_
    exact heap_alloc2_new _ _ _
  have hB1 : Below w.heap.size w w1 := by rw [hw1]; exact Below.setRow (((Below.refl _ _).alloc (Nat.le_refl _) _).alloc (by simp) _) (by omega) _
  clear hw1
  go_upto_region 3 with (first
    | ((with_reducible refine wpList_build_is rfl 47 _ rfl HV.toArray ?_ ?_); (rw [HHV.out]; kernel_rfl))
    | ((with_reducible refine wpList_store_row rfl 47 (.tmp 4) (.tmp 23) rfl w1.heap.size HV.toArray ?_ ?_ 47 (fill 8 (.int .u32 0) []).toArray ?_ ?_ ?_ ?_ ?_); (exact rfl); (exact rfl); (exact heap_alloc_new _ _); (rw [List.size_toArray, hHVl]; kernel_rfl); (rw [List.size_toArray, List.size_toArray, hHVl]; rfl); (exact hHVo)))
  refine wp_world fun w2 hw2 => ?_
  have hz2 : w1.heap.size < w2.heap.size := by rw [hw2]; simp
  have hR2 : Blk w2 w.heap.size 24 ((zerosI 32).map (Value.int .u8)) := by
    rw [hw2]; unfold Blk; rw [setRow_other _ _ _ _ (by omega)]; exact hR1.alloc _
  have hK2 : Blk w2 (w.heap.size + 1) 46 KV := by
    rw [hw2]; unfold Blk; rw [setRow_other _ _ _ _ (by omega)]; exact hK1.alloc _
  have hH2 : Blk w2 w1.heap.size 47 HV := by
    rw [hw2]
    refine Blk.setRow (cs := fill 8 (.int .u32 0) []) (cs' := HV) ?_
    exact heap_alloc_new _ _
  have hB2 : Below w.heap.size w w2 := by rw [hw2]; exact Below.setRow (hB1.alloc (by omega) _) (by omega) _
  clear hw2 hR1 hK1 hB1
  obtain ⟨N, hN⟩ : ∃ N, N = w1.heap.size + 1 := ⟨_, rfl⟩
  have hN1 : N ≤ w2.heap.size := by omega
  have hN2 : w1.heap.size < N := by omega
  have hown0 : OwnB (w2.alloc (.cells #[] 5)) N (.slice (some ⟨w2.heap.size, 0, none⟩) 0 0) [] := World.ownsRow_lit w2 #[] 0 hN1 (by unfold maxLen; omega) rfl
  have hB2' : Below w.heap.size w (w2.alloc (.cells #[] 5)) := hB2.alloc (by omega) _
  have HO0 := Lib.hid hown0
  have HB0 := Lib.hid hB2'
  clear hown0 hB2' hN
  go_wp2_with (with_reducible refine wpList_append_bytesArg rfl (.tmp 24) (.tmp 25) rfl N _ _ [] p ?_ HO0.out ?_ hp HB0.out ?_ ?_ ?_)
  case refine_1 => rfl
  case refine_2 => rfl
  case refine_3 => simp; omega
  case refine_4 => simp; omega
  intro v1 w3 hown3 hg3
  have hA3 : RefAt w w1.heap.size N KV hTab w3 := by
    have : RefAt w w1.heap.size N KV hTab (w2.alloc (.cells #[] 5)) := ⟨hR2.alloc _, hK2.alloc _, by rw [← HHV.out]; exact hH2.alloc _, HB0.out, hz1, hN2, by simp; omega⟩
    exact this.to (HO0.out.below hg3 (by simp; omega))
  clear hg3 hR2 hK2 hH2 hB2 HO0 HB0
  have hl3 := hA3.l3
  have hO3 := hown3.alloc (.cells #[.int .u8 128] 5)
  have HO3 := Lib.hid hO3
  clear hO3
  go_wp2_with (with_reducible refine wpList_append_bytes rfl (.tmp 26) (.tmp 27) rfl N _ p ?_ HO3.out w3.heap.size 0 1 1 [128] ?_ rfl one_range ?_ ?_ ?_)
  case refine_1 => rfl
  case refine_2 => rfl
  case refine_3 => omega
  case refine_4 => simp; omega
  intro v2 w4 hown4 hg4
  have hA4 : RefAt w w1.heap.size N KV hTab w4 := (hA3.to ((Below.refl _ _).alloc hl3 _)).to (HO3.out.below hg4 (by simp; omega))
  clear hg4 HO3 hA3 hown3
  obtain ⟨a2, c2, rfl⟩ := hown4.slice
  have hZ : padZ p.length = (120 - (p.length + 1) % 64) % 64 := rfl
  obtain ⟨z, hz⟩ : ∃ z, z = padZ p.length := ⟨_, rfl⟩
  have hzm : z = (120 - (p.length + 1) % 64) % 64 := hz
  have hz64 : z < 64 := by omega
  have HZ := Lib.hid hz
  have HZM := Lib.hid hzm
  clear hZ hz hzm
  obtain ⟨L0, hL0⟩ : ∃ L0, L0 = p.length := ⟨_, rfl⟩
  have hL0b : L0 < 67108864 := by omega
  have e4 : (p ++ [128]).length = L0 + 1 := by rw [List.length_append, ← hL0]; rfl
  rw [e4] at hown4
  rw [← hL0, e4]
  obtain ⟨Y4, hY4⟩ : ∃ Y, Y = p ++ [128] := ⟨_, rfl⟩
  rw [← hY4] at hown4
  have HY4 := Lib.hid hY4
  have HL0 := Lib.hid hL0
  clear e4 hY4
  clear hL0
  go_wp2_with fail
  go_loopw [5] (fun s5 wr => ∃ (k L : Nat) (a : Option Addr) (c : Nat), k ≤ z ∧ L = L0 + 1 + k ∧ s5 = .slice a L c ∧ (∃ Y, Y = p ++ [128] ++ zerosI k ∧ OwnB wr N s5 Y) ∧ RefAt w w1.heap.size N KV hTab wr)
    (fun s5 _ => L0 + 1 + z - lenOf s5)
  case atStart => exact ⟨0, L0 + 1, a2, c2, by omega, rfl, rfl, ⟨Y4, by rw [HY4.out]; simp [zerosI], hown4⟩, hA4⟩
  case round =>
    clear hown4 hA4
    obtain ⟨k, L, a, c, hk, hL, rfl, ⟨Y, hY, hown⟩, hA⟩ := hrel
    have hlr := hA.l3
    have hYl : Y.length = L := by rw [hY]; have := HL0.out; simp [zerosI]; omega
    have HL := Lib.hid hL
    have HYL := Lib.hid hYl
    have HY := Lib.hid hY
    clear hL hYl hY
    by_cases hlt : k < z
    · have hne : (((L : Nat) : Int) % 64 != 56) = true := by rw [bne_iff_ne]; have := HZM.out; have := HL0.out; have := HL.out; omega
      have hO := hown.alloc (.cells #[.int .u8 0] 5)
      have HO := Lib.hid hO
      clear hO
      go_wp2_with (with_reducible refine wpList_append_bytes rfl (.tmp 33) (.tmp 34) rfl N _ Y ?_ HO.out wr.heap.size 0 1 1 [0] ?_ rfl one_range ?_ ?_ ?_)
      case refine_1 => rfl
      case refine_2 => rfl
      case refine_3 => rw [HYL.out]; have := HL.out; omega
      case refine_4 => simp; omega
      intro v5 w5 hown5 hg5
      have hA5 : RefAt w w1.heap.size N KV hTab w5 := (hA.to ((Below.refl _ _).alloc hlr _)).to (HO.out.below hg5 (by simp; omega))
      obtain ⟨a5, c5, rfl⟩ := hown5.slice
      have hlen5 : (Y ++ [0]).length = L + 1 := by rw [List.length_append, HYL.out]; rfl
      rw [hlen5] at hown5 ⊢
      clear hg5 HO hA hown hlen5
      go_wp2_with fail
      go_roundw
      case rel => exact ⟨k + 1, L + 1, a5, c5, by omega, by have := HL.out; omega, rfl, ⟨_, by rw [HY.out, List.append_assoc _ (zerosI k)]; congr 1; simp [zerosI, List.replicate_succ'], hown5⟩, hA5⟩
      case measure => have := HL.out; simp [lenOf]; omega
    · have hkz : k = z := by omega
      subst hkz
      have hne : (((L : Nat) : Int) % 64 != 56) = false := by rw [bne_eq_false_iff_eq]; have := HZM.out; have := HL0.out; have := HL.out; omega
      go_wp2_with fail
      go_loopw [5, 7] (fun s5 s7 wr => ∃ (j : Nat) (a : Option Addr) (c : Nat), j ≤ 8 ∧ s7 = .int .i64 (7 - (j : Int)) ∧ s5 = .slice a (L + j) c ∧ (∃ Z, Z = Y ++ lenDone ((L0 : Int) * 8) j ∧ OwnB wr N s5 Z) ∧ RefAt w w1.heap.size N KV hTab wr)
        (fun _ s7 _ => (intOf s7 + 1).toNat)
      case atStart => exact ⟨0, a, c, by omega, rfl, rfl, ⟨Y, by simp [lenDone], hown⟩, hA⟩
      case round =>
        clear hown hA hlr
        obtain ⟨j, a, c, hj, rfl, rfl, ⟨Z, hZ, hown⟩, hA⟩ := hrel
        have hlr := hA.l3
        have hZl : Z.length = L + j := by rw [hZ, List.length_append, HYL.out, lenDone_length]
        have HZZ := Lib.hid hZ
        have HZL := Lib.hid hZl
        clear hZ hZl
        by_cases hlt : j < 8
        · obtain ⟨i, hi⟩ : ∃ i : Nat, i = 7 - j := ⟨_, rfl⟩
          have hiI : (7 - (j : Int)) = (i : Int) := by omega
          have hi8 : i < 8 := by omega
          rw [hiI]
          have HI := Lib.hid hi
          have HII := Lib.hid hiI
          clear hi hiI
          have e0 : IntKind.i64.wrap (8 * (i : Int)) = 8 * i := IntWalk.i64_in _ (by omega)
          have p0 : 0 ≤ 8 * (i : Int) := by omega
          have l0 : 8 * (i : Int) < 64 := by omega
          have n0 : (8 * (i : Int)).toNat = 8 * i := by omega
          have hO := hown.alloc (.cells #[.int .u8 ((L0 : Int) * 8 / 2 ^ (8 * i) % 256)] 5)
          have HO := Lib.hid hO
          clear hO
          go_wp2_with (with_reducible refine wpList_append_bytes rfl (.tmp 44) (.tmp 50) rfl N _ Z ?_ HO.out wr.heap.size 0 1 1 [(L0 : Int) * 8 / 2 ^ (8 * i) % 256] ?_ rfl one_range ?_ ?_ ?_)
          case refine_1 => rfl
          case refine_2 => rfl
          case refine_3 => rw [HZL.out]; have := HL.out; omega
          case refine_4 => simp; omega
          intro v5 w5 hown5 hg5
          have hA5 : RefAt w w1.heap.size N KV hTab w5 := (hA.to ((Below.refl _ _).alloc hlr _)).to (HO.out.below hg5 (by simp; omega))
          obtain ⟨a5, c5, rfl⟩ := hown5.slice
          have hlen5 : (Z ++ [(L0 : Int) * 8 / 2 ^ (8 * i) % 256]).length = L + (j + 1) := by rw [List.length_append, HZL.out]; rfl
          rw [hlen5] at hown5 ⊢
          clear hg5 HO hA hown hlen5
          go_wp2_with fail
          go_roundw
          case rel => exact ⟨j + 1, a5, c5, by omega, by rw [← HII.out]; congr 1; omega, rfl, ⟨_, by rw [HZZ.out, HI.out, lenDone, List.append_assoc], hown5⟩, hA5⟩
          case measure => have := HII.out; simp [intOf]
        · have hj8 : j = 8 := by omega
          subst hj8
          go_wp2_with fail
          generalize Value.int .i64 (7 - ((8 : Nat) : Int)) = v7
          have HM : Hid (Z = padM p) := by
            show _ = _
            rw [HZZ.out, HY.out, padM, HL0.out, ← HZ.out]
          have hM64 : (L + 8) % 64 = 0 := by have := HZM.out; have := HL0.out; have := HL.out; omega
          obtain ⟨T, hT⟩ : ∃ T, T = L + 8 := ⟨_, rfl⟩
          rw [← hT] at hM64 hown ⊢
          have hTb : T < 67108999 := by have := HL.out; have := HZM.out; omega
          have hT0 : 0 < T := by omega
          have hZT : Z.length = T := by rw [hT]; exact HZL.out
          obtain ⟨gm, rfl, hgm, hmr⟩ : ∃ gm, a = some ⟨gm, 0, none⟩ ∧ (N ≤ gm ∧ gm < wr.heap.size) ∧ wr.rangeAt gm 0 (Z.map (Value.int .u8)) := by
            have h2 := hown.2
            rw [hZT] at h2
            rcases h2 with ⟨_, h0⟩ | ⟨g, cap, cur, hv, h3, h4, _⟩
            · omega
            · cases hv
              refine ⟨g, rfl, ⟨h3, (hown.lt g rfl).2⟩, fun j u hu => ?_⟩
              have := hown.cells (g := g) rfl j u hu
              rwa [Addr.add_mid] at this
          have HZT := Lib.hid hZT
          clear hown hlr HZZ HZL HYL HY HL0 HZ HZM hT hZT hne HL
          go_loopw [8, 9, 10, 11, 12, 13, 14, 15, 16, 17, 18] (fun s8 _ _ _ _ _ _ _ _ _ _ wr => ∃ j : Nat, 64 * j ≤ T ∧ s8 = .int .i64 ((64 * j : Nat) : Int) ∧ RefAt w w1.heap.size N KV (feed kTab initI (Z.take (64 * j))).h wr ∧ gm < wr.heap.size ∧ wr.rangeAt gm 0 (Z.map (Value.int .u8)))
            (fun s8 _ _ _ _ _ _ _ _ _ _ _ => T - (intOf s8).toNat)
          case atStart => exact ⟨0, by omega, rfl, hA, hgm.2, hmr⟩
          case round =>
            clear hA hmr
            obtain ⟨j, hj, rfl, hA, hgl, hmr⟩ := hrel
            have hgmN := hgm.1
            by_cases hlt : 64 * j < T
            · have hj64 : 64 * j + 64 ≤ T := by omega
              obtain ⟨A, hAj⟩ : ∃ A, A = 64 * j := ⟨_, rfl⟩
              rw [← hAj] at hlt hj64 hA ⊢
              have HAJ := Lib.hid hAj
              clear hAj hj
              generalize hH : (feed kTab initI (Z.take A)).h = hx at *
              have HH := Lib.hid hH
              clear hH
              obtain ⟨wo, rfl⟩ : ∃ wo : World, wo = wr := ⟨_, rfl⟩
              have hI0 : InAt w w1.heap.size N KV hx gm Z wo.heap.size [] (wo.alloc (.cells (fill 64 (.int .u32 0) []).toArray 46)) :=
                ⟨hA.to ((Below.refl _ _).alloc hA.l3 _), rng_of hmr (Below.heap_alloc _ _ _ hgl), hgmN, hgl, Blk.new wo 46 (fill 64 (.int .u32 0) [])⟩
              have HI0 := Lib.hid hI0
              clear hI0
              go_wp2_with fail
              go_loopw [10] (fun s10 wx => ∃ i : Nat, i ≤ 16 ∧ s10 = .int .i64 i ∧ InAt w w1.heap.size N KV hx gm Z wo.heap.size (schedN ((Z.drop A).take 64) i) wx) (fun s10 _ => 16 - (intOf s10).toNat)
              case atStart => exact ⟨0, by omega, rfl, HI0.out⟩
              case round =>
                clear HI0 hA hmr
                obtain ⟨i, hi, rfl, hI⟩ := hrel
                by_cases hl16 : i < 16
                · as_aux_lemma =>
                    have HV := Lib.hid (schedN_word ((Z.drop A).take 64) i hl16)
                    have hAZ : A + 64 ≤ Z.length := by rw [HZT.out]; exact hj64
                    have c0 := hI.byte A (4 * i) (by omega) hAZ
                    have c1 := hI.byte A (4 * i + 1) (by omega) hAZ
                    have c2' := hI.byte A (4 * i + 2) (by omega) hAZ
                    have c3 := hI.byte A (4 * i + 3) (by omega) hAZ
                    have cn := hI.next (by rw [schedN_length]; omega) i (schedN_length _ i).symm
                    have cf := hI.s.frozen i
                    generalize ((Z.drop A).take 64).getD (4 * i) 0 = x0 at *
                    generalize ((Z.drop A).take 64).getD (4 * i + 1) 0 = x1 at *
                    generalize ((Z.drop A).take 64).getD (4 * i + 2) 0 = x2 at *
                    generalize ((Z.drop A).take 64).getD (4 * i + 3) 0 = x3 at *
                    have e : IntKind.i64.wrap (4 * (i : Int)) = 4 * i := IntWalk.i64_in _ (by omega)
                    have e0 : IntKind.i64.wrap ((A : Int) + 4 * i) = A + 4 * i := IntWalk.i64_in _ (by omega)
                    have e1 : IntKind.i64.wrap ((A : Int) + 4 * i + 1) = A + 4 * i + 1 := IntWalk.i64_in _ (by omega)
                    have e2 : IntKind.i64.wrap ((A : Int) + 4 * i + 2) = A + 4 * i + 2 := IntWalk.i64_in _ (by omega)
                    have e3 : IntKind.i64.wrap ((A : Int) + 4 * i + 3) = A + 4 * i + 3 := IntWalk.i64_in _ (by omega)
                    have n0 : ((A : Int) + 4 * i).toNat = A + 4 * i := by omega
                    have n1 : ((A : Int) + 4 * i + 1).toNat = A + (4 * i + 1) := by omega
                    have n2 : ((A : Int) + 4 * i + 2).toNat = A + (4 * i + 2) := by omega
                    have n3 : ((A : Int) + 4 * i + 3).toNat = A + (4 * i + 3) := by omega
                    have p0 : 0 ≤ (A : Int) + 4 * i := by omega
                    have p1 : 0 ≤ (A : Int) + 4 * i + 1 := by omega
                    have p2 : 0 ≤ (A : Int) + 4 * i + 2 := by omega
                    have p3 : 0 ≤ (A : Int) + 4 * i + 3 := by omega
                    have l0 : (A : Int) + 4 * i < T := by omega
                    have l1 : (A : Int) + 4 * i + 1 < T := by omega
                    have l2 : (A : Int) + 4 * i + 2 < T := by omega
                    have l3 : (A : Int) + 4 * i + 3 < T := by omega
                    have li : (i : Int) < 64 := by omega
                    go_wp2_with fail
                    refine wp_region_quiet_tail 43 (by kernel_rfl) (by kernel_rfl) ?_
                    simp only [List.take_succ_cons, List.take_zero, List.drop_succ_cons, List.drop_zero]
                    repeat (go_big_quiet_step (fail))
                    refine wpQuiet_nil ?_
                    intro nq
                    go_wp2
                    go_roundw
                    case rel => exact ⟨i + 1, by omega, by go_num, by rw [HV.out]; exact (hI.drewN nq).step (by rw [schedN_length]; omega) _ i (schedN_length _ i).symm⟩
                    case measure => simp [intOf]; omega
                  -- A>
                · have hi16 : i = 16 := by omega
                  subst hi16
                  go_wp2_with fail
                  go_loopw [11, 12, 13] (fun s11 _ _ wx => ∃ i : Nat, 16 ≤ i ∧ i ≤ 64 ∧ s11 = .int .i64 i ∧ InAt w w1.heap.size N KV hx gm Z wo.heap.size (schedN ((Z.drop A).take 64) i) wx) (fun s11 _ _ _ => 64 - (intOf s11).toNat)
                  case atStart => exact ⟨16, by omega, by omega, rfl, hI⟩
                  case round =>
                    clear hI hi hl16
                    obtain ⟨i, hi0, hi, rfl, hI⟩ := hrel
                    by_cases hlt64 : i < 64
                    · as_aux_lemma =>
                        have HV := Lib.hid (schedN_next ((Z.drop A).take 64) i (by omega))
                        have hsl := schedN_length ((Z.drop A).take 64) i
                        have c0 := hI.word (i - 2) (by omega)
                        have c1 := hI.word (i - 7) (by omega)
                        have c2' := hI.word (i - 15) (by omega)
                        have c3 := hI.word (i - 16) (by omega)
                        have cn := hI.next (by omega) i hsl.symm
                        have cf := hI.s.frozen i
                        have HSL := Lib.hid hsl
                        clear hsl
                        generalize (schedN ((Z.drop A).take 64) i).getD (i - 2) 0 = x0 at *
                        generalize (schedN ((Z.drop A).take 64) i).getD (i - 7) 0 = x1 at *
                        generalize (schedN ((Z.drop A).take 64) i).getD (i - 15) 0 = x2 at *
                        generalize (schedN ((Z.drop A).take 64) i).getD (i - 16) 0 = x3 at *
                        have e0 : IntKind.i64.wrap ((i : Int) - 2) = i - 2 := IntWalk.i64_in _ (by omega)
                        have e1 : IntKind.i64.wrap ((i : Int) - 7) = i - 7 := IntWalk.i64_in _ (by omega)
                        have e2 : IntKind.i64.wrap ((i : Int) - 15) = i - 15 := IntWalk.i64_in _ (by omega)
                        have e3 : IntKind.i64.wrap ((i : Int) - 16) = i - 16 := IntWalk.i64_in _ (by omega)
                        have n0 : ((i : Int) - 2).toNat = i - 2 := by omega
                        have n1 : ((i : Int) - 7).toNat = i - 7 := by omega
                        have n2 : ((i : Int) - 15).toNat = i - 15 := by omega
                        have n3 : ((i : Int) - 16).toNat = i - 16 := by omega
                        have l0 : (i : Int) - 2 < 64 := by omega
                        have l1 : (i : Int) - 7 < 64 := by omega
                        have l2 : (i : Int) - 15 < 64 := by omega
                        have l3 : (i : Int) - 16 < 64 := by omega
                        have p0 : 0 ≤ (i : Int) - 2 := by omega
                        have p1 : 0 ≤ (i : Int) - 7 := by omega
                        have p2 : 0 ≤ (i : Int) - 15 := by omega
                        have p3 : 0 ≤ (i : Int) - 16 := by omega
                        have li : (i : Int) < 64 := by omega
                        have hval : Hid ((x3 + movedI x2 7 18 3 + x1 + movedI x0 17 19 10) % 4294967296 = (movedI x0 17 19 10 + x1 + movedI x2 7 18 3 + x3) % 4294967296) := by
                          show _ = _; congr 1; omega
                        go_wp2_with fail
                        go_quiet ((go_at_call 18; exact Calls.quiet_of (turn_any _ _ (by omega) (by omega) _)))
                        go_wp2_with fail
                        refine wp_world fun wq hwq => ?_
                        have hIq : InAt w w1.heap.size N KV hx gm Z wo.heap.size (schedN ((Z.drop A).take 64) i) wq := by rw [hwq]; exact hI.drewN _
                        have c0 : wq.cell? ⟨wo.heap.size, i - 2, none⟩ = some (.int .u32 x0) := by rw [hwq]; exact c0
                        have c1 : wq.cell? ⟨wo.heap.size, i - 7, none⟩ = some (.int .u32 x1) := by rw [hwq]; exact c1
                        have c3 : wq.cell? ⟨wo.heap.size, i - 16, none⟩ = some (.int .u32 x3) := by rw [hwq]; exact c3
                        have cn : wq.cell? ⟨wo.heap.size, i, none⟩ = some (.int .u32 0) := by rw [hwq]; exact cn
                        have cf : wq.frozen? ⟨wo.heap.size, i, none⟩ = false := by rw [hwq]; exact cf
                        clear hwq hI c2'
                        go_quiet ((go_at_call 18; exact Calls.quiet_of (turn_any _ _ (by omega) (by omega) _)))
                        go_wp2_with fail
                        refine wp_world fun wt hwt => ?_
                        have hIt : InAt w w1.heap.size N KV hx gm Z wo.heap.size (schedN ((Z.drop A).take 64) i) wt := by rw [hwt]; exact hIq.drewN _
                        have c1 : wt.cell? ⟨wo.heap.size, i - 7, none⟩ = some (.int .u32 x1) := by rw [hwt]; exact c1
                        have c3 : wt.cell? ⟨wo.heap.size, i - 16, none⟩ = some (.int .u32 x3) := by rw [hwt]; exact c3
                        have cn : wt.cell? ⟨wo.heap.size, i, none⟩ = some (.int .u32 0) := by rw [hwt]; exact cn
                        have cf : wt.frozen? ⟨wo.heap.size, i, none⟩ = false := by rw [hwt]; exact cf
                        clear hwt hIq c0
                        refine wp_region_quiet_tail 15 (by kernel_rfl) (by kernel_rfl) ?_
                        simp only [List.take_succ_cons, List.take_zero, List.drop_succ_cons, List.drop_zero]
                        repeat (go_big_quiet_step (fail))
                        refine wpQuiet_nil ?_
                        intro nq
                        go_wp2
                        go_roundw
                        case rel => exact ⟨i + 1, by omega, by omega, by go_num, by rw [HV.out, ← hval.out]; exact (hIt.drewN nq).step (by rw [HSL.out]; omega) _ i HSL.out.symm⟩
                        case measure => simp [intOf]; omega
                      -- B>
                    · have hi64 : i = 64 := by omega
                      subst hi64
                      obtain ⟨S, hS⟩ : ∃ S, S = schedN ((Z.drop A).take 64) 64 := ⟨_, rfl⟩
                      have hSl : S.length = 64 := by rw [hS, schedN_length]
                      rw [← hS] at hI
                      have HS := Lib.hid hS
                      clear hS
                      have hhl : hx.length = 8 := by
                        have h1 := hI.ref.h.lt
                        rw [← HH.out]; exact feed_h8 _
                      obtain ⟨HL8, hHL8⟩ : ∃ HL8 : List Value, HL8 = hx.map (Value.int .u32) := ⟨_, rfl⟩
                      have hL8l : HL8.length = 8 := by rw [hHL8]; simpa using hhl
                      have hL8o : HL8.toArray.all (·.oneCell') = true := by rw [hHL8]; exact all_oneCell_toArray (ones_int _ _)
                      have hrow : Blk wr w1.heap.size 47 HL8 := by rw [hHL8]; exact hI.ref.h
                      have HHL8 := Lib.hid hHL8
                      clear hHL8
                      go_upto_region 26 with (first
                        | ((with_reducible refine wpList_load_row rfl 47 (.tmp 4) rfl w1.heap.size ?_ 47 HL8.toArray (0, 0) _ ?_ Try.underlying47 rfl ?_ ?_); (exact rfl); (exact hrow); (rw [List.size_toArray, hL8l]; kernel_rfl))
                        | ((with_reducible refine wpList_store_row rfl 47 (.tmp 14) (.tmp 158) rfl wr.heap.size HL8.toArray ?_ ?_ 47 (fill 8 (.int .u32 0) []).toArray ?_ ?_ ?_ ?_ ?_); (exact rfl); (exact rfl); (exact heap_alloc_new _ _); (rw [List.size_toArray, hL8l]; kernel_rfl); (rw [List.size_toArray, List.size_toArray, hL8l]; rfl); (exact hL8o)))
                      refine wp_world fun wv hwv => ?_
                      have hgwl : wo.heap.size < wr.heap.size := hI.s.lt
                      have h2 : In2 w w1.heap.size N KV hx gm Z wo.heap.size wr.heap.size S hx wv := by
                        have hin : In2 w w1.heap.size N KV hx gm Z wo.heap.size wr.heap.size S (zeros 8) (wr.alloc (.cells (fill 8 (.int .u32 0) []).toArray 47)) :=
                          ⟨hI.ref.to ((Below.refl _ _).alloc hI.ref.l3 _), rng_of hI.m (Below.heap_alloc _ _ _ (by have := hI.gm2; omega)), hI.gm1, hI.gm2, hgwl,
                            by have := hI.s; rw [fill_full (by simpa using hSl)] at this; exact this.alloc _, Blk.new wr 47 (fill 8 (.int .u32 0) [])⟩
                        have := hin.setV hx
                        rw [← HHL8.out] at this
                        rw [hwv]; exact this
                      clear hwv hrow hI
                      obtain ⟨wp, rfl⟩ : ∃ wp : World, wp = wr := ⟨_, rfl⟩
                      go_wp2_with fail
                      go_loopw [15, 16, 17] (fun s15 _ _ wx => ∃ i : Nat, i ≤ 64 ∧ s15 = .int .i64 i ∧ In2 w w1.heap.size N KV hx gm Z wo.heap.size wp.heap.size S (rndN kTab S hx i) wx) (fun s15 _ _ _ => 64 - (intOf s15).toNat)
                      case atStart => exact ⟨0, by omega, rfl, h2⟩
                      case round =>
                        clear h2
                        obtain ⟨i, hi, rfl, hI⟩ := hrel
                        by_cases hl6 : i < 64
                        · skip
                          obtain ⟨a, b, c', d, e, f, gg, hh, hv⟩ := eight (rndN kTab S hx i) (rndN_length _ _ _ hhl i)
                          have HR : Hid (rndN kTab S hx (i + 1) = rnd (kTab.getD i 0) (S.getD i 0) [a, b, c', d, e, f, gg, hh]) := by show _ = _; rw [rndN, hv]
                          rw [hv] at hI
                          clear hv
                          have c0 : wr.cell? ⟨wp.heap.size, 0, none⟩ = some (.int .u32 a) := hI.vcell 0 (by simp)
                          have c1 : wr.cell? ⟨wp.heap.size, 1, none⟩ = some (.int .u32 b) := hI.vcell 1 (by simp)
                          have c2' : wr.cell? ⟨wp.heap.size, 2, none⟩ = some (.int .u32 c') := hI.vcell 2 (by simp)
                          have c3 : wr.cell? ⟨wp.heap.size, 3, none⟩ = some (.int .u32 d) := hI.vcell 3 (by simp)
                          have c4 : wr.cell? ⟨wp.heap.size, 4, none⟩ = some (.int .u32 e) := hI.vcell 4 (by simp)
                          have c5 : wr.cell? ⟨wp.heap.size, 5, none⟩ = some (.int .u32 f) := hI.vcell 5 (by simp)
                          have c6 : wr.cell? ⟨wp.heap.size, 6, none⟩ = some (.int .u32 gg) := hI.vcell 6 (by simp)
                          have c7 : wr.cell? ⟨wp.heap.size, 7, none⟩ = some (.int .u32 hh) := hI.vcell 7 (by simp)
                          have ck : wr.cell? ⟨w.heap.size + 1, i, none⟩ = some (.int .u32 (kTab.getD i 0)) := hI.ref.k.cell (by rw [HKV.out, List.getElem?_map, getD_some (show i < kTab.length from hl6)]; rfl)
                          have cw := hI.word i (by omega)
                          generalize kTab.getD i 0 = x at *
                          generalize S.getD i 0 = y at *
                          have li : (i : Int) < 64 := by omega
                          go_wp2_with fail
                          go_quiet ((go_at_call 18; exact Calls.quiet_of (turn_any _ _ (by omega) (by omega) _)))
                          go_wp2_with fail
                          refine wp_world fun wq hwq => ?_
                          have hIq : In2 w w1.heap.size N KV hx gm Z wo.heap.size wp.heap.size S [a, b, c', d, e, f, gg, hh] wq := by rw [hwq]; exact hI.drewN _
                          clear hwq hI c0 c1 c2' c3 c4 c5 c6 c7 ck cw
                          have c0 : wq.cell? ⟨wp.heap.size, 0, none⟩ = some (.int .u32 a) := hIq.vcell 0 (by simp)
                          have c1 : wq.cell? ⟨wp.heap.size, 1, none⟩ = some (.int .u32 b) := hIq.vcell 1 (by simp)
                          have c2' : wq.cell? ⟨wp.heap.size, 2, none⟩ = some (.int .u32 c') := hIq.vcell 2 (by simp)
                          go_quiet ((go_at_call 18; exact Calls.quiet_of (turn_any _ _ (by omega) (by omega) _)))
                          go_upto_region 31 with fail
                          refine wp_world fun wt hwt => ?_
                          have hIt : In2 w w1.heap.size N KV hx gm Z wo.heap.size wp.heap.size S [a, b, c', d, e, f, gg, hh] wt := by rw [hwt]; exact hIq.drewN _
                          clear hwt hIq c0 c1 c2'
                          have c0 : wt.cell? ⟨wp.heap.size, 0, none⟩ = some (.int .u32 a) := hIt.vcell 0 (by simp)
                          have c1 : wt.cell? ⟨wp.heap.size, 1, none⟩ = some (.int .u32 b) := hIt.vcell 1 (by simp)
                          have c2' : wt.cell? ⟨wp.heap.size, 2, none⟩ = some (.int .u32 c') := hIt.vcell 2 (by simp)
                          have c3 : wt.cell? ⟨wp.heap.size, 3, none⟩ = some (.int .u32 d) := hIt.vcell 3 (by simp)
                          have c4 : wt.cell? ⟨wp.heap.size, 4, none⟩ = some (.int .u32 e) := hIt.vcell 4 (by simp)
                          have c5 : wt.cell? ⟨wp.heap.size, 5, none⟩ = some (.int .u32 f) := hIt.vcell 5 (by simp)
                          have c6 : wt.cell? ⟨wp.heap.size, 6, none⟩ = some (.int .u32 gg) := hIt.vcell 6 (by simp)
                          generalize ht1 : (hh + bits .xor .u32 (bits .xor .u32 (rotI e 6) (rotI e 11)) (rotI e 25) + bits .xor .u32 (bits .and .u32 e f) (bits .and .u32 (bits .xor .u32 IntKind.u32.max e) gg) + x + y) % 4294967296 = t1
                          generalize ht2 : (bits .xor .u32 (bits .xor .u32 (rotI a 2) (rotI a 13)) (rotI a 22) + bits .xor .u32 (bits .xor .u32 (bits .and .u32 a b) (bits .and .u32 a c')) (bits .and .u32 b c')) % 4294967296 = t2
                          have HR2 : Hid (rnd x y [a, b, c', d, e, f, gg, hh] = [(t1 + t2) % 4294967296, a, b, c', (d + t1) % 4294967296, e, f, gg]) := by
                            show _ = _
                            rw [← ht1, ← ht2]; rfl
                          have HIt := Lib.hid hIt
                          clear ht1 ht2 hIt
                          go_wp2_with ((with_reducible refine wpList_store_row rfl 47 (.tmp 14) (.tmp 246) rfl wp.heap.size (([(t1 + t2) % 4294967296, a, b, c', (d + t1) % 4294967296, e, f, gg] : List Int).map (Value.int .u32)).toArray ?_ ?_ 47 ([a, b, c', d, e, f, gg, hh].map (Value.int .u32)).toArray ?_ ?_ ?_ ?_ ?_); (exact rfl); (exact rfl); (exact HIt.out.v); (kernel_rfl); (exact rfl); (exact all_oneCell_toArray (ones_int _ _)))
                          go_roundw
                          case rel => exact ⟨i + 1, by omega, by go_num, by rw [HR.out, HR2.out]; exact HIt.out.setV _⟩
                          case measure => simp [intOf]; omega
                        -- C>
                        · have hi64 : i = 64 := by omega
                          subst hi64
                          obtain ⟨V, hV⟩ : ∃ V, V = rndN kTab S hx 64 := ⟨_, rfl⟩
                          have hVl : V.length = 8 := by rw [hV]; exact rndN_length _ _ _ hhl 64
                          rw [← hV] at hI
                          have HVV := Lib.hid hV
                          clear hV
                          go_wp2_with fail
                          go_loopw [18] (fun s18 wx => ∃ q : Nat, q ≤ 8 ∧ s18 = .int .i64 q ∧ In2 w w1.heap.size N KV (addN hx V q) gm Z wo.heap.size wp.heap.size S V wx) (fun s18 _ => 8 - (intOf s18).toNat)
                          case atStart => exact ⟨0, by omega, rfl, hI⟩
                          case round =>
                            clear hI
                            obtain ⟨q, hq, rfl, hI⟩ := hrel
                            by_cases hl8 : q < 8
                            · as_aux_lemma =>
                                have ch := hI.ref.cell q (by rw [addN_length, hhl]; exact hl8)
                                rw [addN_get _ _ q q (Nat.le_refl _)] at ch
                                have cf := hI.ref.h.frozen q
                                have cv := hI.vcell q (by omega)
                                have HA : Hid (addN hx V (q + 1) = (addN hx V q).set q ((hx.getD q 0 + V.getD q 0) % 4294967296)) := rfl
                                generalize hx.getD q 0 = x at *
                                generalize V.getD q 0 = y at *
                                have lq : (q : Int) < 8 := by omega
                                go_wp2_with fail
                                refine wp_region_quiet_tail 9 (by kernel_rfl) (by kernel_rfl) ?_
                                simp only [List.take_succ_cons, List.take_zero, List.drop_succ_cons, List.drop_zero]
                                repeat (go_big_quiet_step (fail))
                                refine wpQuiet_nil ?_
                                intro nq
                                go_wp2
                                go_roundw
                                case rel => exact ⟨q + 1, by omega, by go_num, by rw [HA.out]; exact (hI.drewN nq).setH q _⟩
                                case measure => simp [intOf]; omega
                              -- D>
                            · have hq8 : q = 8 := by omega
                              subst hq8
                              have HF : Hid ((feed kTab initI (Z.take (A + 64))).h = addN hx V 8) := by
                                show _ = _
                                rw [feed_block Z A (by have := HAJ.out; omega) (by rw [HZT.out]; exact hj64), HH.out, addN_eight _ _ hhl hVl, HVV.out, HS.out]; rfl
                              have hgl2 : gm < wr.heap.size := by have := hI.v.lt; have := hI.gm2; have := hI.gv2; omega
                              go_wp2_with fail
                              go_roundw
                              case rel =>
                                have haj := HAJ.out
                                have e1 : 64 * (j + 1) = A + 64 := by omega
                                have hr := hI.ref
                                rw [← HF.out, ← e1] at hr
                                refine ⟨j + 1, ?_, ?_, hr, hgl2, hI.m⟩
                                · omega
                                · rw [e1]; rfl
                              case measure =>
                                have haj := HAJ.out
                                simp [intOf]
                                omega
            · have hjT : 64 * j = T := by omega
              rw [hjT, ← HZT.out, List.take_of_length_le (Nat.le_refl _)] at hA
              have hh8 := feed_h8 Z
              have HFZ : Hid (sumI p = (feed kTab initI Z).h.flatMap bytesI) := by show _ = _; rw [sumI_pad, HM.out]
              generalize (feed kTab initI Z).h = hx at *
              obtain ⟨wo, rfl⟩ : ∃ wo : World, wo = wr := ⟨_, rfl⟩
              clear hmr
              have hA0 : RefAt w w1.heap.size N KV hx (wo.alloc (.cells ((zerosI 32).map (Value.int .u8)).toArray 24)) := hA.to ((Below.refl _ _).alloc hA.l3 _)
              have hB0 : Blk (wo.alloc (.cells ((zerosI 32).map (Value.int .u8)).toArray 24)) wo.heap.size 24 (outAt hx 0) := Blk.new wo 24 ((zerosI 32).map (Value.int .u8))
              have HA0 := Lib.hid hA0
              have HB0 := Lib.hid hB0
              have hNo : N ≤ wo.heap.size := hA.l3
              have hg4o : w1.heap.size < wo.heap.size := by omega
              clear hA0 hB0 hA
              go_wp2_with fail
              go_loopw [20, 21] (fun s20 _ wx => ∃ i : Nat, i ≤ 8 ∧ s20 = .int .i64 i ∧ RefAt w w1.heap.size N KV hx wx ∧ Blk wx wo.heap.size 24 (outAt hx i)) (fun s20 _ _ => 8 - (intOf s20).toNat)
              case atStart => exact ⟨0, by omega, rfl, HA0.out, HB0.out⟩
              case round =>
                clear HA0 HB0
                obtain ⟨i, hi, rfl, hA, hO⟩ := hrel
                by_cases hl8 : i < 8
                · have hi8' : (i : Int) < 8 := by omega
                  obtain ⟨wp, rfl⟩ : ∃ wp : World, wp = wr := ⟨_, rfl⟩
                  have HA := Lib.hid hA
                  have HO := Lib.hid hO
                  clear hA hO
                  go_wp2_with fail
                  have hA := HA.out
                  have hO := HO.out
                  go_loopw [21] (fun s21 wx => ∃ q : Nat, q ≤ 4 ∧ s21 = .int .i64 q ∧ RefAt w w1.heap.size N KV hx wx ∧ Blk wx wo.heap.size 24 (outAt2 hx i q)) (fun s21 _ => 4 - (intOf s21).toNat)
                  case atStart => exact ⟨0, by omega, rfl, hA, by rw [outAt2_zero]; exact hO⟩
                  case round =>
                    clear hA hO
                    obtain ⟨q, hq, rfl, hA, hO⟩ := hrel
                    by_cases hl4 : q < 4
                    · as_aux_lemma =>
                        have ch := hA.cell i (by omega)
                        have co := hO.cell (outAt2_cell hx i q hh8 hl8 hl4)
                        have cf := hO.frozen (4 * i + q)
                        have HST := Lib.hid (outAt2_step hx i q hh8 hl8 hl4)
                        generalize hx.getD i 0 = x at *
                        have HA := Lib.hid hA
                        have HO := Lib.hid hO
                        clear hA hO
                        have e0 : IntKind.i64.wrap (4 * (i : Int)) = 4 * i := IntWalk.i64_in _ (by omega)
                        have e1 : IntKind.i64.wrap (4 * (i : Int) + q) = 4 * i + q := IntWalk.i64_in _ (by omega)
                        have e2 : IntKind.i64.wrap (8 * (q : Int)) = 8 * q := IntWalk.i64_in _ (by omega)
                        have e3 : IntKind.i64.wrap (24 - 8 * (q : Int)) = 24 - 8 * q := IntWalk.i64_in _ (by omega)
                        have n1 : (4 * (i : Int) + q).toNat = 4 * i + q := by omega
                        have n3 : (24 - 8 * (q : Int)).toNat = 24 - 8 * q := by omega
                        have p1 : 0 ≤ 4 * (i : Int) + q := by omega
                        have l1 : 4 * (i : Int) + q < 32 := by omega
                        have p3 : 0 ≤ 24 - 8 * (q : Int) := by omega
                        have l3 : 24 - 8 * (q : Int) < 32 := by omega
                        have li : (i : Int) < 8 := by omega
                        have lq : (q : Int) < 4 := by omega
                        go_wp2_with fail
                        go_roundw
                        case rel => exact ⟨q + 1, by omega, by go_num, HA.out.to ((Below.refl _ _).setCell (by show N ≤ wo.heap.size; exact hNo) _), by rw [← HST.out]; exact HO.out.set _ _⟩
                        case measure => simp [intOf]; omega
                      -- E>
                    · have hq4 : q = 4 := by omega
                      subst hq4
                      rw [outAt2_four hx i (by omega)] at hO
                      have HA := Lib.hid hA
                      have HO := Lib.hid hO
                      clear hA hO
                      go_wp2_with fail
                      go_roundw
                      case rel => exact ⟨i + 1, by omega, by go_num, HA.out, HO.out⟩
                      case measure => simp [intOf]; omega
                · have hi8 : i = 8 := by omega
                  subst hi8
                  rw [outAt_done hx hh8] at hO
                  obtain ⟨O, hOe⟩ : ∃ O : List Value, O = (hx.flatMap bytesI).map (Value.int .u8) := ⟨_, rfl⟩
                  have hOl : O.toArray.size = 32 := by rw [hOe, List.size_toArray, List.length_map, flat_length, hh8]
                  have hO1 : O.toArray.all (·.oneCell') = true := by rw [hOe]; exact all_oneCell_toArray (ones_int _ _)
                  have HE : Hid ((sumI p).map (Value.int .u8) = O) := by show _ = _; rw [HFZ.out, hOe]
                  rw [← hOe] at hO
                  have hzl : ((zerosI 32).map (Value.int .u8)).toArray.size = 32 := rfl
                  have hrr := hA.r
                  clear hOe
                  go_wp2_with (first
                    | ((with_reducible refine wpList_load_row rfl 24 (.tmp 19) rfl wo.heap.size ?_ 24 O.toArray (0, 0) _ ?_ Try.underlying24 rfl ?_ ?_); (exact rfl); (exact hO); (rw [hOl]; kernel_rfl))
                    | ((with_reducible refine wpList_store_row rfl 24 (.tmp 2) (.tmp 281) rfl w.heap.size O.toArray ?_ ?_ 24 ((zerosI 32).map (Value.int .u8)).toArray ?_ ?_ ?_ ?_ ?_); (exact rfl); (exact rfl); (exact hrr); (rw [hOl]; kernel_rfl); (rw [hOl, hzl]); (exact hO1)))
                  -- <F
                  go_simp
                  exact bodyPost_ret (v := .agg O.toArray) (results_cell_row rfl _ _ _ 24 O.toArray (0, 0) _ rfl (hrr.setRow (cs' := O)) Try.underlying24 rfl (by rw [hOl]; kernel_rfl)) rfl ⟨by rw [HE.out], Below.setRow hA.b (Nat.le_refl _) _⟩
                  -- F>
end Go.Proofs.Ytigpccfglicjeaa
