/- SeglogRows: segments are read in the order in which they are asked for, each frame with its id; the last one tells whether something is behind: walked. -/
import Derived.Test.YtpfbiijcmmkjlaaDoorSgS
namespace Go.Proofs.YtpfbiijcmmkjlaaDoor
open Go.RowKit
set_option maxRecDepth 100000

set_option maxHeartbeats 16000000 in
theorem rowsLaw_any (vc vt : Value) (cs tl : List Int) (w0 : World) (hl : NumL w0) (hc : Fr.Bytes w0 vc cs) (hcy : Fr.Byt cs) (hcl : cs.length < 9223372036854775808) (ht : Fr.Bytes w0 vt tl) (hty : Fr.Byt tl) (htl : tl.length < 9223372036854775808) :
    Calls Tryd.prog 4 #[vc, vt] w0 fun e w' => e = .returned (.bool true) ∧ Below w0.heap.size w0 w' := by
  obtain ⟨ca, cc, rfl⟩ := hc.slice'
  obtain ⟨ta, tc, rfl⟩ := ht.slice'
  obtain ⟨i0, hi, hz0, hz1, hz2⟩ := info_parts intInfo4
  have HI := Lib.hid hi
  have HZ0 := Lib.hid hz0
  have HZ1 := Lib.hid hz1
  have HZ2 := Lib.hid hz2
  have HL := Lib.hid hl
  have HC := Lib.hid hc
  have HCY := Lib.hid hcy
  have HT := Lib.hid ht
  have HTY := Lib.hid hty
  clear hi hz0 hz1 hz2 hl hc hcy ht hty
  go_enter Tryd.func4, Tryd.ntmps4
  go_wp2_with fail
  refine (awake4_any w0 HL.out).mono ?_; rintro e w1 ⟨rfl, hb1⟩
  have HB1 := Lib.hid hb1
  clear hb1
  by_cases hlong : 300 < tl.length
  · have l1 : (300 : Int) < tl.length := by omega
    go_wp2_with fail
    refine (awake4_any w1 (HL.out.below HB1.out)).mono ?_; rintro e w2 ⟨rfl, hb2⟩
    have HB2 := Lib.hid (HB1.out.trans (hb2.mono HB1.out.size))
    clear hb2
    go_wp2_with fail
    go_ret
    exact ⟨rfl, HB2.out⟩
  have l1 : ¬ (300 : Int) < tl.length := by omega
  have HTL := Lib.hid (show tl.length ≤ 300 by omega)
  clear hlong htl
  go_wp2_with fail
  refine (new_pf 30000 (by omega) (by omega) HB1.out).mono ?_; rintro e w2 ⟨g, S, rfl, hpf, hb2⟩
  have HST : Hid (RowsI w0 w2 g S (newA 30000) 0 [] (.slice none 0 0) (.slice none 0 0) [] []) :=
    ⟨hpf, Segs.new, World.ownsRow_nil _ _ _ _, World.ownsRow_nil _ _ _ _, fun k e => (by cases e), fun k e => (by cases e)⟩
  clear hpf hb2 HB1
  go_wp2_with fail
  go_loopw [7, 8, 9, 10, 11] (fun s7 s8 s9 _ _ wr => ∃ (i : Nat) (S : Nat → Prop) (A : FsA) (a7 : Option Addr) (c7 : Nat) (a8 : Option Addr) (n8 c8 : Nat), i ≤ 8 ∧ i ≤ cs.length ∧ s9 = .int .i64 i ∧ s7 = .slice a7 i c7 ∧ s8 = .slice a8 n8 c8 ∧ n8 = (entR cs i).length ∧
      RowsI w0 wr g S A (30 * i) (segD cs i) s7 s8 (idsR i) ((entR cs i).map (·.1)))
    (fun _ _ s9 _ _ _ => 8 - (intOf s9).toNat)
  case atStart => exact ⟨0, S, _, none, 0, none, 0, 0, by omega, by omega, rfl, rfl, rfl, rfl, HST.out⟩
  case round =>
    clear HST
    obtain ⟨i, S, A, a7, c7, a8, n8, c8, hi8, hic, rfl, rfl, rfl, hn8, hR⟩ := hrel
    have HR := Lib.hid hR
    have HN8 := Lib.hid hn8
    clear hR hn8
    by_cases hlt : i < cs.length ∧ i < 8
    · have l2 : (i : Int) < cs.length := by omega
      have l3 : (i : Int) < 8 := by omega
      have hm1 : IntKind.i64.wrap (3 * (i : Int)) = 3 * i := IntWalk.i64_in _ (by omega)
      have hm2 : IntKind.i64.wrap (3 * (i : Int) + 1) = 3 * i + 1 := IntWalk.i64_in _ (by omega)
      go_wp2_with fail
      refine (segCreate_pf (idR i) HR.out.pf HR.out.seg.inv (by omega) HL.out.tab).mono ?_; rintro e w3 ⟨b, hbn, S3, rfl, hpf3, hadv3⟩
      obtain ⟨A3, hse3, hsg3⟩ := HR.out.seg.create (id := idR i) (by unfold idR; omega) (by unfold idR; omega) (segD_ne cs i) (by rw [segD_length]; omega) hbn
      rw [hse3] at hpf3 ⊢
      simp only at hpf3 ⊢
      have HR3 := Lib.hid (HR.out.call hpf3 hadv3 hsg3)
      clear hpf3 hadv3 hsg3 hse3 hbn HR
      obtain ⟨x, hx⟩ : ∃ x, x = idR i := ⟨_, rfl⟩
      have hx' : (3 * (i : Int) + 1) = x := by rw [hx]; rfl
      have HX := Lib.hid hx
      have HR4 := Lib.hid (HR3.out.below ((Below.refl w3.heap.size w3).alloc (Nat.le_refl _) (.cells #[.int .i64 x] 3)))
      have hil := idsR_length i
      have HO7 : Hid ((w3.alloc (.cells #[.int .i64 x] 3)).ownsRow w0.heap.size 3 1 (.slice a7 i c7) i ((idsR i).map (Value.int .i64))) := by
        have := HR4.out.r7
        unfold RowI at this
        rwa [hil] at this
      have HON : Hid (∀ u ∈ [Value.int .i64 x], u.oneCell' = true) := fun u hu => by obtain rfl := List.mem_singleton.1 hu; rfl
      have HLM : Hid (i + 1 ≤ maxLen) := by show _ ≤ _; unfold maxLen; omega
      have HLB : Hid ((i + 1) * 8 ≤ 140737488355328) := by show _ ≤ _; omega
      have HSZ : Hid (w0.heap.size ≤ (w3.alloc (.cells #[.int .i64 x] 3)).heap.size) := HR4.out.pf.base.size
      generalize hil7 : (idsR i).map (Value.int .i64) = l7 at HO7
      have HL7 := Lib.hid hil7
      rw [hx'] at *
      clear hx hx' hil hil7 hm1 hm2
      go_wp2_with (with_reducible refine wpList_append_own_at _ rfl (.tmp 53) (.tmp 55) 36 rfl w0.heap.size 3 i0 (.int .i64 0) 1 8 Tryd.underlying36 HI.out HZ0.out HZ1.out HZ2.out rfl (by decide) (.slice a7 i c7) i l7 rfl HO7.out ⟨w3.heap.size, 0, none⟩ 1 1 [.int .i64 x] rfl rfl (cell_one_new _ _ _) HON.out HLM.out HLB.out HSZ.out ?_)
      intro v7 w5 ho5 hg5 _ hloc
      have hall5 : ((w3.alloc (.cells #[.int .i64 x] 3))).grownBy w5 (Value.slice a7 i c7).ownBlock := hg5
      have hR5 := HR4.out.app7 (v' := v7) (x := x) (by rw [HL7.out, idsR_length]; exact ho5) hg5 (hloc.imp id fun e k ek => by rw [e] at ek; cases ek; simp)
      obtain ⟨b7, d7, rfl⟩ := own_slice ho5
      have HR5 : Hid (RowsI w0 w5 g S3 A3 (30 * i + 6 + 6 * 0) (segD cs i ++ [(idR i, rowG (frR i 0))]) (.slice b7 (i + 1) d7) (.slice a8 n8 c8) (idsR (i + 1)) ((entR cs i ++ idF (idR i) (frR i 0)).map (·.1))) := by
        have e1 : idsR (i + 1) = idsR i ++ [x] := by rw [idsR_succ, HX.out]
        show RowsI _ _ _ _ _ _ _ _ _ _ _
        rw [e1]
        have e2 : entR cs i ++ idF (idR i) (frR i 0) = entR cs i := by simp [frR, idF]
        rw [e2]
        exact hR5
      clear ho5 hg5 hloc hall5 hR5 HR4 HR3 HO7 HON HLM HLB HSZ HL7
      obtain ⟨pb, po, rfl, hpb, hcell⟩ := bytes_cells HC.out (by omega)
      have hz := HCY.out.getD i
      have hcc := hcell i hlt.1
      obtain ⟨z, hzz⟩ : ∃ z, z = cs.getD i 0 := ⟨_, rfl⟩
      rw [← hzz] at hz hcc
      have hmod : z.tmod 5 = ((cntR cs i : Nat) : Int) := by
        unfold cntR
        rw [← hzz, Int.tmod_eq_emod_of_nonneg hz.1]; omega
      have HCL := Lib.hid hcc
      have HCN := Lib.hid (cntR_le cs i)
      have HMOD := Lib.hid hmod
      obtain ⟨K, hK⟩ : ∃ K, K = cntR cs i := ⟨_, rfl⟩
      rw [← hK] at HCN HMOD
      have HK := Lib.hid hK
      have HPB := Lib.hid hpb
      have HZ := Lib.hid hz
      clear hcc hcell hz hzz hmod hK hpb
      go_wp2_with fail
      go_loopw [8, 11] (fun s8 s11 wr => ∃ (k : Nat) (S : Nat → Prop) (A : FsA) (a8 : Option Addr) (n8 c8 : Nat), k ≤ K ∧ s11 = .int .i64 k ∧ s8 = .slice a8 n8 c8 ∧ n8 = (entR cs i ++ idF (idR i) (frR i k)).length ∧
          RowsI w0 wr g S A (30 * i + 6 + 6 * k) (segD cs i ++ [(idR i, rowG (frR i k))]) (.slice b7 (i + 1) d7) s8 (idsR (i + 1)) ((entR cs i ++ idF (idR i) (frR i k)).map (·.1)))
        (fun _ s11 _ => K - (intOf s11).toNat)
      case atStart => exact ⟨0, S3, A3, a8, n8, c8, Nat.zero_le _, rfl, rfl, by rw [HN8.out]; simp [frR, idF], HR5.out⟩
      case round =>
        clear HR5
        obtain ⟨k, S5, A5, a8, n8, c8, hk, rfl, rfl, hn8, hR⟩ := hrel
        have HR6 := Lib.hid hR
        have HN9 := Lib.hid hn8
        clear hR hn8
        have c1 := (HR6.out.pf.base.cell (p := ⟨pb, po + i, none⟩) HPB.out).trans HCL.out
        have hz0 := HZ.out
        have hcn := HCN.out
        have hmod := HMOD.out
        by_cases hkK : k < K
        · have l4 : (k : Int) < K := by omega
          have u1 : IntKind.u8.wrap (i : Int) = i := by rw [IntKind.wrap_u8]; omega
          have u2 : IntKind.u8.wrap (k : Int) = k := by rw [IntKind.wrap_u8]; omega
          have u3 : IntKind.i64.wrap (1 + (k : Int)) = 1 + k := IntWalk.i64_in _ (by omega)
          go_wp2_with fail
          refine calls_world fun w6 hw6 => ?_
          have hx := HX.out
          subst hx
          have hb6 : Below wr.heap.size wr w6 := by rw [hw6]; exact ((Below.refl _ _).alloc (Nat.le_refl _) _).alloc (by simp) _
          have hpt : Fr.Parts w6 (.slice (some ⟨wr.heap.size + 1, 0, none⟩) 1 1) [[(i : Int), (k : Int)]] := by rw [hw6]; exact two_parts wr i k
          have hyy : Fr.Byt [(i : Int), (k : Int)] := fun y hy => by
            simp only [List.mem_cons, List.not_mem_nil, or_false] at hy
            rcases hy with rfl | rfl <;> omega
          have hR7 := HR6.out.below hb6
          have hap := segAppend_pf (idR i) (1 + (k : Int)) _ [[(i : Int), (k : Int)]] hR7.pf hR7.seg.inv (by omega) HL.out.tab hpt (by simp) (fun j hj => by
            have h0 : j = 0 := by simpa using hj
            subst h0
            exact ⟨by simp, hyy⟩)
          rw [show ([[(i : Int), (k : Int)]] : List (List Int)).flatten = [(i : Int), (k : Int)] from rfl] at hap
          obtain ⟨A7, hse7, hsg7⟩ := hR7.seg.append (p := [(i : Int), (k : Int)]) (k := 1 + (k : Int)) (by omega) (by omega) hyy (by rw [rowR_length]; simp; omega) (by rw [segD_length]; omega)
          rw [hse7] at hap
          rw [← rowR_succ] at hsg7
          have HAP := Lib.hid hap
          have HSG7 := Lib.hid hsg7
          have HR7 := Lib.hid hR7
          clear hw6 hb6 hpt hyy hR7 hap hse7 hsg7
          refine HAP.out.mono ?_; rintro e w7 ⟨S7, rfl, hpf7, hadv7⟩
          have HR8 := Lib.hid (HR7.out.call hpf7 hadv7 HSG7.out)
          clear hpf7 hadv7 HAP HR7 HSG7
          have HR9 := Lib.hid (HR8.out.below ((Below.refl w7.heap.size w7).alloc (Nat.le_refl _) (.cells #[.int .i64 (idR i)] 3)))
          obtain ⟨W8, hW8⟩ : ∃ W8, W8 = (entR cs i ++ idF (idR i) (frR i k)).map (·.1) := ⟨_, rfl⟩
          rw [← hW8] at HR8 HR9
          have hn9 : n8 = W8.length := by rw [hW8, List.length_map]; exact HN9.out
          have hnl : n8 ≤ 100 := by
            rw [HN9.out, List.length_append, idF_length]
            have := entR_le cs i
            unfold frR
            simp only [List.length_map, List.length_range]
            omega
          have HO8 : Hid ((w7.alloc (.cells #[.int .i64 (idR i)] 3)).ownsRow w0.heap.size 3 1 (.slice a8 n8 c8) n8 (W8.map (Value.int .i64))) := by
            have := HR9.out.r8
            unfold RowI at this
            rwa [← hn9] at this
          have HON : Hid (∀ u ∈ [Value.int .i64 (idR i)], u.oneCell' = true) := fun u hu => by obtain rfl := List.mem_singleton.1 hu; rfl
          have HLM : Hid (n8 + 1 ≤ maxLen) := by show _ ≤ _; unfold maxLen; omega
          have HLB : Hid ((n8 + 1) * 8 ≤ 140737488355328) := by show _ ≤ _; omega
          have HSZ : Hid (w0.heap.size ≤ (w7.alloc (.cells #[.int .i64 (idR i)] 3)).heap.size) := HR9.out.pf.base.size
          have HW8 := Lib.hid hW8
          have HN10 := Lib.hid hn9
          generalize hl8 : W8.map (Value.int .i64) = l8 at HO8
          have HL8 := Lib.hid hl8
          generalize hxx : idR i = x at HO8 HON HSZ HR9 ⊢
          have HXX := Lib.hid hxx
          clear hl8 hn9 hW8 hnl c1 hxx
          go_wp2_with (with_reducible refine wpList_append_own_at _ rfl (.tmp 79) (.tmp 81) 36 rfl w0.heap.size 3 i0 (.int .i64 0) 1 8 Tryd.underlying36 HI.out HZ0.out HZ1.out HZ2.out rfl (by decide) (.slice a8 n8 c8) n8 l8 rfl HO8.out ⟨w7.heap.size, 0, none⟩ 1 1 [.int .i64 x] rfl rfl (cell_one_new _ _ _) HON.out HLM.out HLB.out HSZ.out ?_)
          intro v8 w9 ho9 hg9 _ hloc
          have hR10 := HR9.out.app8 (v' := v8) (x := x) (by rw [HL8.out, ← HN10.out]; exact ho9) hg9 (hloc.imp id fun e k ek => by rw [e] at ek; cases ek; simp)
          obtain ⟨b8, d8, rfl⟩ := own_slice ho9
          have HWE : Hid ((entR cs i ++ idF (idR i) (frR i (k + 1))).map (·.1) = W8 ++ [x]) := by
            show _ = _
            rw [HW8.out, frR_succ, ← HXX.out]
            unfold idF
            simp
          have HR10 : Hid (RowsI w0 w9 g S7 A7 (30 * i + 6 + 6 * (k + 1)) (segD cs i ++ [(idR i, rowG (frR i (k + 1)))]) (.slice b7 (i + 1) d7) (.slice b8 (n8 + 1) d8) (idsR (i + 1)) ((entR cs i ++ idF (idR i) (frR i (k + 1))).map (·.1))) := by
            show RowsI _ _ _ _ _ _ _ _ _ _ _
            rw [HWE.out, HXX.out]
            exact hR10.mono (n' := 30 * i + 6 + 6 * (k + 1)) (by omega)
          have HN11 : Hid (n8 + 1 = (entR cs i ++ idF (idR i) (frR i (k + 1))).length) := by
            show _ = _
            have := congrArg List.length HWE.out
            rw [List.length_map] at this
            rw [this, HN10.out]; simp
          clear ho9 hg9 hloc hR10 HO8 HON HLM HLB HSZ HL8 HR9 HR8 HR6 HWE
          have hxx := HXX.out
          subst hxx
          go_wp2_with fail
          go_roundw
          case rel => exact ⟨k + 1, S7, A7, b8, n8 + 1, d8, by omega, by go_num, rfl, HN11.out, HR10.out⟩
          case measure => simp [intOf]; omega
        · have l4 : ¬ (k : Int) < K := by omega
          obtain rfl : k = K := by omega
          have HRE : Hid (RowsI w0 wr g S5 A5 (30 * (i + 1)) (segD cs (i + 1)) (.slice b7 (i + 1) d7) (.slice a8 n8 c8) (idsR (i + 1)) ((entR cs (i + 1)).map (·.1))) := by
            show RowsI _ _ _ _ _ _ _ _ _ _ _
            rw [segD_succ, entR_succ, ← HK.out]
            exact HR6.out.mono (n' := 30 * (i + 1)) (by have := HCN.out; omega)
          have HNE : Hid (n8 = (entR cs (i + 1)).length) := by show _ = _; rw [entR_succ, ← HK.out]; exact HN9.out
          clear HR6 HN9
          go_wp2_with fail
          go_roundw
          case rel => exact ⟨i + 1, S5, A5, b7, d7, a8, n8, c8, by omega, by omega, by go_num, rfl, rfl, HNE.out, HRE.out⟩
          case measure => simp [intOf]; omega
    · have HIC : Hid (i ≤ 8 ∧ i ≤ cs.length) := ⟨hi8, hic⟩
      have hor : (¬ (i : Int) < cs.length) ∨ ((i : Int) < cs.length ∧ ¬ (i : Int) < 8) := by omega
      clear hlt
      have HRD := Lib.hid (segRead_pf _ (idsR i) HR.out.pf HR.out.seg.inv HR.out.seg.by_ HL.out.tab HR.out.r7.ints (by rw [idsR_length]; omega))
      rcases hor with l2 | ⟨l2, l3⟩
      all_goals go_wp2_with fail
      all_goals
        refine HRD.out.mono ?_; rintro e w3 ⟨hb3, hq⟩
        obtain ⟨v, es, bb, rfl, hrd, hen⟩ : ∃ v es bb, e = .returned (.tuple #[v, .bool bb, .int .i64 0]) ∧ ReadsA A (idsR i) (plainE es) bb ∧ Ents w3 wr.heap.size v es := by
          rcases hq with ⟨⟨id, hid, hbad⟩, _⟩ | ⟨_, ⟨v, es, bb, he, hr, hn, _⟩ | ⟨j, _, _, hj, _, hbad, _⟩⟩
          · obtain ⟨t, ht, rfl⟩ := List.mem_map.1 hid
            have := List.mem_range.1 ht
            exact absurd (codeN_ok (by unfold idR; omega) (by unfold idR; omega)) hbad
          · exact ⟨v, es, bb, he, hr, hn⟩
          · rw [idsR_length] at hj
            have e1 : (idsR i).getD j 0 = idR j := by unfold idsR; rw [List.getD_eq_getElem?_getD, List.getElem?_map, List.getElem?_range hj]; rfl
            rw [e1, HR.out.seg.read (p := (idR j, rowG (frR j (cntR cs j)))) (List.mem_map.2 ⟨j, List.mem_range.2 hj, rfl⟩)] at hbad
            exact absurd rfl hbad
        obtain ⟨hpe, rfl⟩ := segs_read HR.out.seg HIC.out.1 hrd
        have hel : es.length = n8 := by
          have := congrArg List.length hpe
          unfold plainE at this
          rw [List.length_map] at this
          rw [this, ← HN8.out]
        obtain ⟨la, lc, rfl⟩ := hen.slice
        rw [hel]
        have HPE := Lib.hid hpe
        have HEL := Lib.hid hel
        obtain ⟨BB, hBB⟩ : ∃ BB, BB = wr.heap.size := ⟨_, rfl⟩
        rw [← hBB] at hen
        have HEN := Lib.hid hen
        have HB3 := Lib.hid hb3
        have HR3 := Lib.hid (HR.out.below hb3)
        have hnb : n8 ≤ 32 := by rw [HN8.out]; have := entR_le cs i; omega
        have HNB := Lib.hid hnb
        clear hpe hel hen hb3 hq hrd HRD HR hBB
      all_goals go_wp2_with fail
      all_goals
        go_loopw [14, 105] (fun _ s105 W => ∃ j : Nat, j ≤ n8 ∧ s105 = .int .i64 j ∧ Below w3.heap.size w3 W) (fun _ s105 _ => n8 - (intOf s105).toNat)
        case atStart => exact ⟨0, Nat.zero_le _, rfl, Below.refl _ _⟩
        case round =>
          obtain ⟨j, hj, rfl, hbq⟩ := hrel
          have HBQ := Lib.hid hbq
          have hnb := HNB.out
          clear hbq
          by_cases hjn : j < n8
          · have lj : (j : Int) < n8 := by omega
            have hE := HEN.out.keep HBQ.out
            have hR := HR3.out.below HBQ.out
            have hown := hE.own
            rw [HEL.out] at hown
            obtain ⟨q, rfl, _, _, hcl⟩ := ownsRow_at hown (by omega)
            obtain ⟨q8, rfl, _, _, hcl8⟩ := ownsRow_at (show wr.ownsRow w0.heap.size 3 1 (.slice a8 n8 c8) n8 (((entR cs i).map (·.1)).map (Value.int .i64)) by
              have := hR.r8
              unfold RowI at this
              rwa [List.length_map, ← HN8.out] at this) (by omega)
            obtain ⟨t, htt⟩ : ∃ t, es[j]? = some t := ⟨_, List.getElem?_eq_getElem (by rw [HEL.out]; exact hjn)⟩
            obtain ⟨e1, e2, p, u⟩ := t
            have hpt : (entR cs i)[j]? = some (e1, e2, p) := by
              rw [← HPE.out]; unfold plainE; rw [List.getElem?_map, htt]; rfl
            obtain ⟨tt, kk, hx, hk3⟩ := entR_each cs i _ (List.mem_of_getElem? hpt)
            cases hx
            obtain ⟨c0, c1, c2⟩ := cellsE_get es j _ htt
            have hpay : Fr.OwnB wr BB u [(tt : Int), (kk : Int)] := hE.pay _ (List.mem_of_getElem? htt)
            obtain ⟨ua, uc, rfl⟩ := hpay.slice
            obtain ⟨gu, rfl, _, _, hcu⟩ := ownsRow_at hpay (by simp)
            have d0 := hcl _ _ c0
            have d1 := hcl _ _ c1
            have d2 : wr.cell? ⟨q, j * 3 + 1 + 1, none⟩ = some (.slice (some ⟨gu, 0, none⟩) 2 uc) := hcl _ _ c2
            have d3 : wr.cell? ⟨gu, 1, none⟩ = some (.int .u8 kk) := hcu 1 _ rfl
            have d4 : wr.cell? ⟨q8, j, none⟩ = some (.int .i64 (idR tt)) := hcl8 j _ (by rw [List.getElem?_map, List.getElem?_map, hpt]; rfl)
            simp only at d0 d1
            have k1 : (kk : Int) ≤ 3 := by omega
            have k2 : IntKind.i64.wrap ((kk : Int) + 1) = kk + 1 := IntWalk.i64_in _ (by omega)
            have k3 : (1 : Int) + kk = kk + 1 := by omega
            rw [k3] at d1
            generalize idR tt = xx at *
            clear hE hR hown hcl hcl8 htt hpt c0 c1 c2 hpay hcu k3
            go_upto_region 26 with fail
            go_quiet (fail)
            clear d0 d1 d2 d3 d4
            go_wp2_with fail
            go_roundw
            case rel => exact ⟨j + 1, by omega, by go_num, Below.drewN HBQ.out _⟩
            case measure => simp [intOf]; omega
          · have lj : ¬ (j : Int) < n8 := by omega
            have HR6 := Lib.hid (HR3.out.below HBQ.out)
            have HBF := Lib.hid HR6.out.pf.base
            clear HR3 HEN HPE HB3 hjn
            cases i with
            | zero =>
              go_wp2_with fail
              go_ret
              exact ⟨rfl, HBF.out⟩
            | succ i =>
              have hown7 : wr.ownsRow w0.heap.size 3 1 (.slice a7 (i + 1) c7) (i + 1) ((idsR (i + 1)).map (Value.int .i64)) := by
                have := HR6.out.r7
                unfold RowI at this
                rwa [idsR_length] at this
              obtain ⟨q7, rfl, _, _, hcl7⟩ := ownsRow_at hown7 (by omega)
              have d7 : wr.cell? ⟨q7, i, none⟩ = some (.int .i64 (idR i)) := hcl7 i _ (by unfold idsR; rw [List.getElem?_map, List.getElem?_map, List.getElem?_range (by omega)]; rfl)
              have i8 := HIC.out.1
              have hsub : IntKind.i64.wrap ((i : Int) + 1 - 1) = i := by rw [show (i : Int) + 1 - 1 = i by omega]; exact IntWalk.i64_in _ (by omega)
              clear hown7 hcl7
              go_wp2_with fail
              refine (name_any (idR i) wr (HL.out.tab.below HBF.out)).mono ?_; rintro e w6 ⟨rfl, hb6⟩
              have HR7 := Lib.hid (HR6.out.below hb6)
              have hnz := nameV_size (idR i)
              have HOB : Hid (Fr.OwnB (w6.alloc (.cells #[.int .u8 255, .int .u8 255, .int .u8 255, .int .u8 255] 5)) w6.heap.size (.slice (some ⟨w6.heap.size, 0, none⟩) 4 4) [255, 255, 255, 255]) :=
                ⟨rfl, .inr ⟨w6.heap.size, 4, #[.int .u8 255, .int .u8 255, .int .u8 255, .int .u8 255], rfl, Nat.le_refl _, heap_alloc_new w6 _, Nat.le_refl _, by unfold maxLen; simp, rfl, rfl⟩⟩
              have HBT : Hid (Below w0.heap.size w0 (w6.alloc (.cells #[.int .u8 255, .int .u8 255, .int .u8 255, .int .u8 255] 5))) := HR7.out.pf.base.alloc HR7.out.pf.base.size _
              have HTE : Hid (Fr.BytesE w0 (.slice ta tl.length tc) tl) := .inl HT.out
              have HLE : Hid (([255, 255, 255, 255] : List Int).length + tl.length ≤ 140737488355328) := by show _ ≤ _; have := HTL.out; simp only [List.length_cons, List.length_nil]; omega
              have HBZ : Hid (w6.heap.size ≤ (w6.alloc (.cells #[.int .u8 255, .int .u8 255, .int .u8 255, .int .u8 255] 5)).heap.size) := by show _ ≤ _; simp
              clear hb6 d7 HR6
              go_wp2_with (with_reducible refine Fr.wpList_append_bytesE rfl (.tmp 163) (.tmp 164) rfl w6.heap.size (.slice (some ⟨w6.heap.size, 0, none⟩) 4 4) (.slice ta tl.length tc) [255, 255, 255, 255] tl ?_ HOB.out ?_ HTE.out HBT.out HLE.out HBZ.out ?_)
              case refine_1 => rfl
              case refine_2 => rfl
              intro v9 w9 ho9 hg9
              obtain ⟨pp, hpp⟩ : ∃ pp : List Int, pp = [255, 255, 255, 255] ++ tl := ⟨_, rfl⟩
              have HPP := Lib.hid hpp
              have ho9 : Fr.OwnB w9 w6.heap.size v9 pp := by rw [hpp]; exact ho9
              have hpl : pp.length = 4 + tl.length := by rw [hpp, List.length_append]; rfl
              have hyp : Fr.Byt pp := by
                rw [hpp]
                refine Fr.Byt.append (fun z hz => ?_) HTY.out
                simp only [List.mem_cons, List.not_mem_nil, or_false] at hz
                rcases hz with rfl | rfl | rfl | rfl <;> omega
              clear hpp
              have hB9 : Below w6.heap.size w6 w9 := ((Below.refl w6.heap.size w6).alloc (Nat.le_refl _) _).grown hg9 (by simp) fun k hk => by cases hk; exact Nat.le_refl _
              have HR9 := Lib.hid (HR7.out.below hB9)
              have htl := HTL.out
              have hap := append_pf (nameV (idR i)) v9 pp HR9.out.pf HR9.out.seg.inv (by omega) (by omega) (OwnD.bytes ho9) (by omega) (fun x hx hS => by
                have e1 := (World.ownsRow.lt ho9 x hx.1).1
                have e2 := (HR7.out.pf.lo x hS).2
                omega)
              obtain ⟨A9, ha9, hr1, hr2⟩ := Segs.raw (p := pp) (D := segD cs i) (id := idR i) (data := rowG (frR i (cntR cs i))) (by have := HR9.out.seg; rwa [segD_succ] at this) (by rw [rowR_length]; have := cntR_le cs i; omega) (by rw [rowR_length]; have := cntR_le cs i; omega) (by rw [segD_length]; omega)
              have hinv := inv_append HR9.out.seg.inv (nameV (idR i)) pp
              have hbya := HR9.out.seg.by_.append (nameV (idR i)) (p := pp) hyp
              rw [ha9] at hap hinv hbya
              obtain ⟨a9, c9, rfl⟩ := own_slice ho9
              have HAP := Lib.hid hap
              have HIV := Lib.hid hinv
              have HBY := Lib.hid hbya
              have HR1 := Lib.hid hr1
              have HR2 := Lib.hid hr2
              clear ho9 hg9 hB9 hpl hyp hap ha9 hr1 hr2 hinv hbya HOB HBT HTE HLE HBZ
              obtain ⟨nm, hnm⟩ : ∃ nm, nameV (idR i) = nm := ⟨_, rfl⟩
              rw [hnm] at HAP HR2
              have HNMV := Lib.hid hnm
              try rw [hnm]
              clear hnm
              go_wp2_with fail
              refine HAP.out.mono ?_; rintro e w10 ⟨S10, rfl, hpf10, hadv10⟩
              have hr7 : RowI w10 w0.heap.size (.slice (some ⟨q7, 0, none⟩) (i + 1) c7) (idsR (i + 1)) := own_stay HR9.out.r7 fun k hk e => (hadv10.block hk (HR9.out.a7 k e).1).1
              have HRD2 := Lib.hid (segRead_pf _ (idsR (i + 1)) hpf10 HIV.out HBY.out HL.out.tab hr7.ints (by rw [idsR_length]; omega))
              have HPF := Lib.hid hpf10
              clear hpf10 hadv10 hr7 HAP
              go_wp2_with fail
              refine HRD2.out.mono ?_; rintro e w11 ⟨hb11, hq⟩
              have hfin : Below w0.heap.size w0 w11 := (HPF.out.below hb11).base
              obtain ⟨v', es', bb, rfl, hrd, hen⟩ : ∃ v es bb, e = .returned (.tuple #[v, .bool bb, .int .i64 0]) ∧ ReadsA A9 (idsR (i + 1)) (plainE es) bb ∧ Ents w11 w10.heap.size v es := by
                rcases hq with ⟨⟨id, hid, hbad⟩, _⟩ | ⟨_, ⟨v, es, bb, he, hr, hn, _⟩ | ⟨j', _, _, hj', _, hbad, _⟩⟩
                · obtain ⟨t, ht, rfl⟩ := List.mem_map.1 hid
                  have := List.mem_range.1 ht
                  exact absurd (codeN_ok (by unfold idR; omega) (by unfold idR; omega)) hbad
                · exact ⟨v, es, bb, he, hr, hn⟩
                · rw [idsR_length] at hj'
                  have e1 : (idsR (i + 1)).getD j' 0 = idR j' := by unfold idsR; rw [List.getD_eq_getElem?_getD, List.getElem?_map, List.getElem?_range hj']; rfl
                  rw [e1] at hbad
                  by_cases hji : j' = i
                  · rw [hji, HNMV.out, HR2.out] at hbad
                    exact absurd rfl hbad
                  · rw [HR1.out (idR j', rowG (frR j' (cntR cs j'))) (List.mem_map.2 ⟨j', List.mem_range.2 (by omega), rfl⟩)] at hbad
                    exact absurd rfl hbad
              obtain ⟨hpe', rfl⟩ := segs_again (tail := tl) (by omega) HTY.out (by have := HTL.out; omega) HR1.out (by rw [HNMV.out, HR2.out, HPP.out]) hrd
              have hel' : es'.length = n8 := by
                have := congrArg List.length hpe'
                unfold plainE at this
                rw [List.length_map] at this
                rw [this, ← HN8.out]
              obtain ⟨la', lc', rfl⟩ := hen.slice
              rw [hel']
              have HFIN := Lib.hid hfin
              clear hpe' hel' hen hb11 hq hrd hfin HR1 HR2 HRD2 HPF
              go_wp2_with fail
              go_ret
              exact ⟨rfl, HFIN.out⟩
end Go.Proofs.YtpfbiijcmmkjlaaDoor
