/- ManifestSwaps, walked: wherever a Save fails, and wherever the power goes within it, whatever is kept, what is loaded is the manifest ahead of it, or the new one; again and again. -/
import Derived.Test.YtigbgajelkknbaaGreatDoorMsA
namespace Go.Proofs.YtigbgajelkknbaaGreatDoor
open Go.RowKit Go.Maps Go.WideMaps
set_option maxRecDepth 100000

theorem three_ints {w : World} {a b c : Int} {t : TypeId} : Ints (w.alloc (.cells #[.int .i64 a, .int .i64 b, .int .i64 c] t)) (.slice (some ⟨w.heap.size, 0, none⟩) 3 3) [a, b, c] := by
  have hk := Blk.new w t [Value.int .i64 a, Value.int .i64 b, Value.int .i64 c]
  exact .inr ⟨w.heap.size, 0, 3, rfl, by simp, hk.range 0 _ fun j v hv => by rw [Nat.zero_add]; exact hv⟩
theorem same5_of (n m : Int) (u v : Value) (xs ys : List Int) (w : World) (b : Bool) (hb : decide (n = m ∧ xs = ys) = b) (hu : Ints w u xs) (hv : Ints w v ys) (hl : xs.length < 9223372036854775807) (hl2 : ys.length < 9223372036854775808) :
    Calls Tryz.prog 32 #[.agg #[.int .i64 n, u], .agg #[.int .i64 m, v]] w fun e w' => e = .returned (.bool b) ∧ Below w.heap.size w w' := by
  subst hb
  exact same5_any n m u v xs ys w hu hv hl hl2
/-- A remainder, as a number. -/
theorem mod_natS (M n : Int) (hM : 0 < M) (hM2 : M ≤ 4294967296) : ∃ N : Nat, IntKind.i64.wrap ((IntKind.u64.wrap n).tmod M) = N ∧ wrap64 ((IntKind.u64.wrap n).tmod M) = N ∧ (N : Int) < M := by
  have h0 : 0 ≤ IntKind.u64.wrap n := by unfold IntKind.wrap; simp [IntKind.signed, IntKind.bits]; omega
  rw [Int.tmod_eq_emod_of_nonneg h0]
  have h1 := Int.emod_nonneg (IntKind.u64.wrap n) (show M ≠ 0 by omega)
  have h2 := Int.emod_lt_of_pos (IntKind.u64.wrap n) hM
  refine ⟨(IntKind.u64.wrap n % M).toNat, ?_, ?_, by omega⟩
  · rw [IntWalk.i64_in _ (by omega)]; omega
  · have h3 : wrap64 (IntKind.u64.wrap n % M) = IntKind.u64.wrap n % M := by unfold wrap64; omega
    rw [h3]; omega
set_option maxHeartbeats 16000000 in
theorem swaps_any (v vp vk : Value) (ms : List (Int × List Int)) (ls : List (List Int)) (ks : List Int) (w0 : World) (hl : NumL w0) (h : ManAt w0 v ms) (hok : ManOk ms) (hp : RowsAt w0 vp ls) (hpo : RowsOk ls) (hk : IntsW w0 vk ks) (hkl : ks.length < 9223372036854775808) :
    Calls Tryz.prog 6 #[v, vp, vk] w0 fun e w' => e = .returned (.bool true) ∧ Below w0.heap.size w0 w' := by
  obtain ⟨va, vc, rfl⟩ := h.slice
  obtain ⟨pa, pc, rfl⟩ := hp.slice
  obtain ⟨ka, kc, rfl⟩ := hk.slice
  have HL := Lib.hid hl
  have HM := Lib.hid h
  have HOK := Lib.hid hok
  have HP := Lib.hid hp
  have HPO := Lib.hid hpo
  have HK := Lib.hid hk
  have HKL := Lib.hid hkl
  clear h hok hl hp hpo hk hkl
  go_enter Tryz.func6, Tryz.ntmps6
  go_wp2_with fail
  refine (awake5_any w0 HL.out).mono ?_; rintro e w1 ⟨rfl, hb1⟩
  have HB1 := Lib.hid hb1
  clear hb1
  go_wp2_with fail
  refine (new_pf 20000 (by omega) (by omega) HB1.out).mono ?_; rintro e w2 ⟨g, S, rfl, hpf, hb2⟩
  have HPF := Lib.hid hpf
  clear hpf hb2
  go_upto_region 7 with fail
  refine Fr.wp_world fun w3 hw3 => ?_
  have hb3 : Below w2.heap.size w2 w3 := by rw [hw3]; exact (Below.refl _ _).alloc (Nat.le_refl _) _
  have hk3 : Blk w3 w2.heap.size 61 [.int .i64 0, .slice none 0 0] := by rw [hw3]; exact Blk.new w2 _ _
  have hla : SwapAt w0 w3 w2.heap.size (30 * 0) g S (newA 20000) none 0 (.slice none 0 0) :=
    ⟨HPF.out.below hb3, Inv.new 20000 (by omega) (by omega), rfl, new_all 20000, hk3, fun e => by have := (HPF.out.lo _ e).2; omega, HPF.out.base.size, .inl rfl⟩
  obtain ⟨b9, hb9⟩ : ∃ b9, b9 = w2.heap.size := ⟨_, rfl⟩
  rw [← hb9] at hla
  try rw [← hb9]
  clear hk3 hb3 hw3 hb9 HPF HB1
  go_wp2_with fail
  go_loopw [7, 10, 11] (fun s7 s10 s11 wr => ∃ (i g : Nat) (S : Nat → Prop) (A : FsA) (m : Option (Int × List Int)) (lv : Int) (lu : Value), i ≤ 10 ∧ i ≤ ms.length ∧ s7 = .pointer (some ⟨g, 0, none⟩) ∧ s10 = .bool m.isSome ∧ s11 = .int .i64 i ∧ SwapAt w0 wr b9 (30 * i) g S A m lv lu)
    (fun _ _ s11 _ => 10 - (intOf s11).toNat)
  case atStart => exact ⟨0, g, S, _, none, 0, .slice none 0 0, Nat.zero_le _, Nat.zero_le _, rfl, rfl, rfl, hla⟩
  case round =>
    clear hla
    obtain ⟨i, g, S, A, m, lv, lu, hi10, hil, rfl, rfl, rfl, hla⟩ := hrel
    have HLA := Lib.hid hla
    clear hla
    by_cases hlt : i < ms.length ∧ i < 10
    · have l2 : (i : Int) < ms.length := by omega
      have l3 : (i : Int) < 10 := by omega
      have hoi := List.getElem?_eq_getElem hlt.1
      have hok := HOK.out _ (List.getElem_mem hlt.1)
      generalize ms[i] = p at hoi hok
      rcases HM.out with ⟨_, h0⟩ | ⟨b, o, cap, hv, hb, hc⟩
      · rw [h0] at hoi; cases hoi
      obtain ⟨u, hu, hcc⟩ := hc i p hoi
      cases hv
      obtain ⟨pv, ns⟩ := p
      simp only at hok hcc hu
      obtain ⟨ua, uc, rfl⟩ := hu.slice
      have HU := Lib.hid hu
      have HN := Lib.hid hok
      obtain ⟨q0, q1⟩ := hcc wr (HLA.out.pf.base.block b hb)
      have HLT := Lib.hid hlt
      clear hoi hok hc hu hcc hb hi10 hil hlt
      go_upto_region 12 with fail
      refine Fr.wp_world fun w4 hw4 => ?_
      have hb4 : Below wr.heap.size wr w4 := by rw [hw4]; exact (Below.refl _ _).alloc (Nat.le_refl _) _
      have hk4 : Blk w4 wr.heap.size 61 [.int .i64 pv, .slice ua ns.length uc] := by rw [hw4]; exact Blk.new wr _ _
      have hno : ¬ S wr.heap.size := fun e => by have := (HLA.out.pf.lo _ e).2; omega
      have hL4 := HLA.out.below hb4
      obtain ⟨b12, hb12⟩ : ∃ b12, b12 = wr.heap.size := ⟨_, rfl⟩
      rw [← hb12] at hk4 hno
      try rw [← hb12]
      have HL4 := Lib.hid hL4
      have HK4 := Lib.hid hk4
      have HNO := Lib.hid hno
      have x0 := hk4.cell (i := 0) rfl
      have x1 := hk4.cell (i := 1) rfl
      have HCK := Lib.hid (check_any pv (.slice ua ns.length uc) ns w4 (HU.out.below hL4.pf.base) HN.out (HL.out.tab.below hL4.pf.base))
      clear hw4 hb4 hk4 hno hL4 hb12 q0 q1 HLA
      go_wp2_with fail
      refine HCK.out.mono ?_; rintro e w5 ⟨rfl, hb5⟩
      have HL5 := Lib.hid (HL4.out.below hb5)
      have HK5 := Lib.hid (blk_stay hb5 HK4.out)
      clear hb5 x0 x1 HCK HL4 HK4
      by_cases hg : GoodM pv ns
      · have HC0 : Hid (codeM pv ns = 0) := by show _ = _; unfold codeM; rw [if_pos hg]
        have HG := Lib.hid hg
        clear hg
        rw [HC0.out]
        go_upto_if 49 with fail
        go_cut [13] from 37 to 140 (fun s13 wx => ∃ k : Int, s13 = .int .i64 k ∧ w5 = wx)
        case first =>
          by_cases hat : i < ks.length
          · have l5 : (i : Int) < ks.length := by omega
            obtain ⟨kb, ko, kcap, e, hkb, hrg⟩ : ∃ b o cap, Value.slice ka ks.length kc = .slice (some ⟨b, o, none⟩) ks.length cap ∧ b < w0.heap.size ∧ w0.rangeAt b o (ks.map (Value.int .i64)) := by
              rcases HK.out.ints (by omega) with ⟨e, h0⟩ | ⟨b, o, cap, e, h1, h2⟩
              · subst h0; simp at hat
              · exact ⟨b, o, cap, e, h1, h2⟩
            cases e
            have hc : w5.cell? ⟨kb, ko + i, none⟩ = some (.int .i64 (ks.getD i 0)) := by
              rw [World.cell?_of_block (w := w0) (HL5.out.pf.base.block kb hkb)]
              exact hrg i _ (by rw [List.getElem?_map, List.getD_eq_getElem?_getD, List.getElem?_eq_getElem hat]; rfl)
            generalize ks.getD i 0 = k at hc
            clear hrg hkb hat
            go_wp2_with fail
            go_meet
            exact ⟨k, rfl, rfl⟩
          · have l5 : ¬ (i : Int) < ks.length := by omega
            clear hat
            go_wp2_with fail
            go_meet
            exact ⟨0, rfl, rfl⟩
        case rest =>
          obtain ⟨k, rfl, rfl⟩ := hcut
          obtain ⟨bb, hbb⟩ : ∃ bb : Bool, (bb = true ↔ i < ls.length ∧ (ls.getD i []).length ≤ 20) := ⟨decide _, decide_eq_true_iff⟩
          have HBB := Lib.hid hbb
          clear hbb
          go_upto_region 16 with fail
          go_cut [65] from 37 to 140 (fun s65 wx => s65 = .bool bb ∧ w5 = wx)
          case first =>
            by_cases hpl : i < ls.length
            · have l5 : (i : Int) < ls.length := by omega
              rcases HP.out with ⟨_, h0⟩ | ⟨rb, ro, rcap, hv, hrb, hrc⟩
              · subst h0; simp at hpl
              obtain ⟨ru, hru, hrcell⟩ := hrc i _ (List.getElem?_eq_getElem hpl)
              have hgd : ls.getD i [] = ls[i] := by rw [List.getD_eq_getElem?_getD, List.getElem?_eq_getElem hpl]; rfl
              cases hv
              have q := hrcell w5 (HL5.out.pf.base.block rb hrb)
              have hbb := HBB.out
              rw [hgd] at hbb
              generalize ls[i] = l at *
              obtain ⟨la, lc, rfl⟩ := hru.slice
              by_cases hl20 : l.length ≤ 20
              · have l6 : (l.length : Int) ≤ 20 := by omega
                obtain rfl : bb = true := hbb.2 ⟨hpl, hl20⟩
                clear hbb hpl hl20 hrc hru hrcell hrb hgd
                go_wp2_with fail
                go_meet
                exact ⟨rfl, rfl⟩
              · have l6 : ¬ (l.length : Int) ≤ 20 := by omega
                obtain rfl : bb = false := by
                  cases bb with
                  | false => rfl
                  | true => exact absurd (hbb.1 rfl).2 hl20
                clear hbb hpl hl20 hrc hru hrcell hrb hgd
                go_wp2_with fail
                go_meet
                exact ⟨rfl, rfl⟩
            · have l5 : ¬ (i : Int) < ls.length := by omega
              obtain rfl : bb = false := by
                cases bb with
                | false => rfl
                | true => exact absurd (HBB.out.1 rfl).1 hpl
              clear hpl
              go_wp2_with fail
              go_meet
              exact ⟨rfl, rfl⟩
          case rest =>
            obtain ⟨rfl, rfl⟩ := hcut
            go_upto_if 65 with fail
            go_cut [13] from 37 to 140 (fun s13 wx => s13 = .int .i64 k ∧ ∃ (S : Nat → Prop) (A : FsA), SwapAt w0 wx b9 (30 * i + 3) g S A m lv lu ∧ Blk wx b12 61 [.int .i64 pv, .slice ua ns.length uc] ∧ ¬ S b12)
            case first =>
              cases bb with
              | false =>
                go_wp2_with fail
                go_meet
                exact ⟨rfl, S, A, HL5.out.mono (by omega), HK5.out, HNO.out⟩
              | true =>
                obtain ⟨hpl, hl20⟩ := HBB.out.1 rfl
                have l5 : (i : Int) < ls.length := by omega
                rcases HP.out with ⟨_, h0⟩ | ⟨rb, ro, rcap, hv, hrb, hrc⟩
                · subst h0; simp at hpl
                obtain ⟨ru, hru, hrcell⟩ := hrc i _ (List.getElem?_eq_getElem hpl)
                have hgd : ls.getD i [] = ls[i] := by rw [List.getD_eq_getElem?_getD, List.getElem?_eq_getElem hpl]; rfl
                have hlo := HPO.out _ (List.getElem_mem hpl)
                cases hv
                have HRC := Lib.hid (fun (W : World) (hW : Below w5.heap.size w5 W) => hrcell W ((HL5.out.below hW).pf.base.block rb hrb))
                rw [hgd] at hl20
                generalize ls[i] = l at *
                obtain ⟨la, lc, rfl⟩ := hru.slice
                have HRD := Lib.hid (fun (W : World) (hW : Below w0.heap.size w0 W) => hrcell W (hW.block rb hrb))
                have HPL := Lib.hid (fun (W : World) (hW : Below w5.heap.size w5 W) => planW_pf (.slice la l.length lc) l (HL5.out.pf.below hW) (hru.below (HL5.out.below hW).pf.base) (by omega))
                have hl20' : l.length < 1000 := by omega
                have HIP := Lib.hid (inv_plan HL5.out.inv l hl20' hlo.2)
                have HBD := Lib.hid (⟨rfl, rfl, rfl, Nat.le_refl _, fun _ _ => rfl⟩ : Below w5.heap.size w5 w5.drew)
                clear hrc hru hrcell hrb hgd hlo hpl hl20 hl20'
                go_upto_region 17 with fail
                go_region_held_law (fun W => W.cell? ⟨rb, ro + i, none⟩ = some (.slice la l.length lc)) (first | exact HRC.out _ HBD.out | exact HRD.out _ hpf2.base)
                  (first | (go_simp; go_at_call 40; refine (HPL.out _ HBD.out).mono ?_; rintro e w6 ⟨S2, rfl, hpf2, hadv2⟩))
                have hL6 := HL5.out.below HBD.out
                obtain ⟨hkb, hnb⟩ := hadv2.blk hL6.blk hL6.no
                obtain ⟨hk12, hn12⟩ := hadv2.blk (blk_stay HBD.out HK5.out) HNO.out
                have HN6 : Hid (SwapAt w0 w6 b9 (30 * i + 3) g S2 { A with plan := l } m lv lu) := ⟨hpf2, HIP.out, HL5.out.armed, HL5.out.all.plan l, hkb, hnb, HL5.out.ge, HL5.out.is⟩
                have HK6 := Lib.hid hk12
                have HO6 := Lib.hid hn12
                clear hL6 hkb hnb hk12 hn12 hpf2 hadv2
                go_simp
                go_wp2_with fail
                go_meet
                exact ⟨rfl, S2, _, HN6.out, HK6.out, HO6.out⟩
            case rest =>
              obtain ⟨rfl, S, A, hL, hK, hno⟩ := hcut
              have HL6 := Lib.hid hL
              have HK6 := Lib.hid hK
              have HO6 := Lib.hid hno
              clear hL hK hno HL5 HK5 HNO HBB
              obtain ⟨N, hN1, hN2, hN3⟩ := mod_natS 9 k (by omega) (by omega)
              have HMN := Lib.hid (And.intro hN1 (And.intro hN2 hN3))
              have HAR := Lib.hid (arm_pf (N : Int) HL6.out.pf)
              rw [arm_ok HL6.out.armed (by omega)] at HAR
              clear hN1 hN2 hN3
              go_wp2_with fail
              rw [HMN.out.2.1]
              refine HAR.out.mono ?_; rintro e w7 ⟨S7, rfl, hpf7, hadv7⟩
              have hinv7 := inv_arm HL6.out.inv (N : Int) (by have := HMN.out.2.2; omega)
              have hall7 := HL6.out.all.arm (N : Int)
              obtain ⟨hb7, hn7⟩ := hadv7.blk HL6.out.blk HL6.out.no
              obtain ⟨hm7, ho7⟩ := hadv7.blk HK6.out HO6.out
              have HIS := Lib.hid HL6.out.is
              have HGE := Lib.hid HL6.out.ge
              generalize (armA A (N : Int)).1 = A7 at *
              have HI7 := Lib.hid hinv7
              have HA7 := Lib.hid hall7
              have HB7 := Lib.hid hb7
              have HN7 := Lib.hid hn7
              have HM7 := Lib.hid hm7
              have HO7 := Lib.hid ho7
              have hi10 := HLT.out.2
              have HSV := Lib.hid (save_pf pv (.slice ua ns.length uc) ns hpf7 hinv7 (by omega) HL.out.tab (HU.out.below hpf7.base) HN.out)
              have x0 := hm7.cell (i := 0) rfl
              have x1 := hm7.cell (i := 1) rfl
              clear HMN HAR HL6 HK6 HO6 hpf7 hadv7 hinv7 hall7 hb7 hn7 hm7 ho7 hi10
              go_wp2_with fail
              refine HSV.out.mono ?_; rintro e w8 ⟨A8, c, hsr, hinv8, S8, rfl, hpf8, hadv8⟩
              obtain ⟨hb8, hn8⟩ := hadv8.blk HB7.out HN7.out
              obtain ⟨hm8, ho8⟩ := hadv8.blk HM7.out HO7.out
              have HSR := Lib.hid hsr
              have HI8 := Lib.hid hinv8
              have HP8 := Lib.hid hpf8
              have HB8 := Lib.hid hb8
              have HM8 := Lib.hid hm8
              clear HSV x0 x1 hsr hinv8 hpf8 hadv8 hb8 hn8 hm8 ho8 HB7 HN7 HM7 HO7
              have hi10 := HLT.out.2
              have hbA : Below w8.heap.size w8 (w8.alloc (.cells #[.int .i64 (k.tmod 7), .int .i64 (k.tmod 30), .int .i64 (k.tmod 40)] 3)) := (Below.refl _ _).alloc (Nat.le_refl _) _
              have HCR := Lib.hid (crash_pf (k.tmod 5) (.slice (some ⟨w8.heap.size, 0, none⟩) 3 3) [k.tmod 7, k.tmod 30, k.tmod 40] (HP8.out.below hbA) HI8.out (by omega) three_ints (by simp))
              have HBA := Lib.hid hbA
              clear hi10 hbA
              go_wp2_with fail
              refine HCR.out.mono ?_; rintro e w9 ⟨g9, S9, bs, rfl, hbl, hnd, hpf9, hlo9, hbw9⟩
              have hin9 := HI8.out.crash (tails := [k.tmod 7, k.tmod 30, k.tmod 40]) hbl
              have har9 := (crash_calm A8 (k.tmod 5) [k.tmod 7, k.tmod 30, k.tmod 40] bs).1
              have hsw := swapped (tails := [k.tmod 7, k.tmod 30, k.tmod 40]) HI7.out HI8.out HG.out HA7.out HSR.out hbl hnd
              generalize crashA A8 (k.tmod 5) [k.tmod 7, k.tmod 30, k.tmod 40] bs = A9 at *
              have hb89 : Below w8.heap.size w8 w9 := HBA.out.trans (hbw9.mono HBA.out.size)
              have hb9 := blk_stay hb89 HB8.out
              have hn9 : ¬ S9 b9 := fun e => by have := hlo9 _ e; have := HB8.out.lt; have := HBA.out.size; omega
              have HM9 := Lib.hid (blk_stay hb89 HM8.out)
              have h3 : AllM A9 (some (manB pv ns)) ∨ (c ≠ 0 ∧ m = none ∧ AllM A9 none) ∨ (c ≠ 0 ∧ ∃ ns', m = some (lv, ns') ∧ GoodM lv ns' ∧ Ints w0 lu ns' ∧ decide (lv = pv ∧ ns' = ns) = false ∧ AllM A9 (some (manB lv ns'))) := by
                rcases hsw with ⟨hc, ha⟩ | ha
                · rcases HIS.out with rfl | ⟨ns', rfl, h1, h2⟩
                  · exact .inr (.inl ⟨hc, rfl, ha⟩)
                  · by_cases he : lv = pv ∧ ns' = ns
                    · obtain ⟨rfl, rfl⟩ := he
                      exact .inl ha
                    · exact .inr (.inr ⟨hc, ns', rfl, h1, h2, decide_eq_false he, ha⟩)
                · exact .inl ha
              have HP9 := Lib.hid hpf9
              have HI9 := Lib.hid hin9
              have HR9 := Lib.hid har9
              have HB9 := Lib.hid hb9
              have HN9 := Lib.hid hn9
              clear hpf9 hin9 har9 hb9 hn9 hsw hbl hnd hlo9 hbw9 hb89 HCR HBA HP8 HI8 HB8 HM8 HSR HI7 HA7
              rcases h3 with ha | ⟨hc, rfl, ha⟩ | ⟨hc, ns', rfl, hg', hi', hd', ha⟩
              · have HA := Lib.hid ha
                have HLD := Lib.hid (load_pf HP9.out HI9.out HL.out (by rw [read_all HI9.out ha]; exact manB_byt pv ns))
                rw [read_all HI9.out ha] at HLD
                clear ha
                go_wp2_with fail
                refine HLD.out.mono ?_; rintro e w10 ⟨hb10, hq⟩
                obtain ⟨u', rfl, hu'⟩ : ∃ u', e = .returned (.tuple #[.agg #[.int .i64 pv, u'], .int .i64 0]) ∧ IntsAt w10 w9.heap.size u' ns := by
                  rcases hq with ⟨h, _⟩ | ⟨_, ⟨n, ns', u', hd, rfl, hu⟩ | ⟨hd, _⟩⟩
                  · exact absurd rfl h
                  · rw [show (Option.getD (some (manB pv ns)) []) = manB pv ns from rfl, decM_enc HG.out] at hd
                    cases hd
                    exact ⟨u', rfl, hu⟩
                  · rw [show (Option.getD (some (manB pv ns)) []) = manB pv ns from rfl, decM_enc HG.out] at hd
                    cases hd
                obtain ⟨ub, uc', rfl⟩ := hu'.ge
                have HU' := Lib.hid hu'
                have HB10 := Lib.hid hb10
                clear hq hu' hb10 HLD
                go_upto_region 25 with fail
                refine Fr.wp_world fun w11 hw11 => ?_
                have hb11 : Below w10.heap.size w10 w11 := by rw [hw11]; exact (Below.refl _ _).alloc (Nat.le_refl _) _
                have hk11 : Blk w11 w10.heap.size 61 [.int .i64 pv, .slice ub ns.length uc'] := by rw [hw11]; exact Blk.new w10 _ _
                have hb911 : Below w9.heap.size w9 w11 := HB10.out.trans (hb11.mono HB10.out.size)
                have HU1 := Lib.hid (HU'.out.below hb11).ints
                obtain ⟨b15, hb15⟩ : ∃ b15, b15 = w10.heap.size := ⟨_, rfl⟩
                rw [← hb15] at hk11
                try rw [← hb15]
                have HK15 := Lib.hid hk11
                have HM11 := Lib.hid (blk_stay hb911 HM9.out)
                have HB911 := Lib.hid hb911
                clear hw11 hk11 hb11 hb911 hb15 HU' HB10 HM9
                have HSK : Hid (∀ W : World, Below w11.heap.size w11 W → (W.cell? ⟨b15, 0, none⟩ = some (.int .i64 pv) ∧ W.cell? ⟨b15, 1, none⟩ = some (.slice ub ns.length uc') ∧ W.cell? ⟨b12, 0, none⟩ = some (.int .i64 pv) ∧ W.cell? ⟨b12, 1, none⟩ = some (.slice ua ns.length uc))) := fun W hW =>
                  ⟨(blk_stay hW HK15.out).cell (i := 0) rfl, (blk_stay hW HK15.out).cell (i := 1) rfl, (blk_stay hW HM11.out).cell (i := 0) rfl, (blk_stay hW HM11.out).cell (i := 1) rfl⟩
                have hI := HU.out.ints HG.out.2.1.1
                have HI0 := Lib.hid hI
                have hl32 := HG.out.2.1.2
                have HRF := Lib.hid (fun (W : World) (hW : Below w11.heap.size w11 W) => ref5_any pv (.slice ua ns.length uc) ns W (hI.below (HP9.out.base.trans ((HB911.out.trans (hW.mono HB911.out.size)).mono HP9.out.base.size))))
                have HSM := Lib.hid (fun (W : World) (hW : Below w11.heap.size w11 W) => same5_of pv pv (.slice ub ns.length uc') (.slice ua ns.length uc) ns ns W true (by simp) (HU1.out.below hW) (hI.below (HP9.out.base.trans ((HB911.out.trans (hW.mono HB911.out.size)).mono HP9.out.base.size))) (by omega) (by omega))
                have HBD := Lib.hid (⟨rfl, rfl, rfl, Nat.le_refl _, fun _ _ => rfl⟩ : Below w11.heap.size w11 w11.drew)
                clear hl32 hI
                go_region_held_law (fun W : World => W.cell? ⟨b15, 0, none⟩ = some (.int .i64 pv) ∧ W.cell? ⟨b15, 1, none⟩ = some (.slice ub ns.length uc') ∧ W.cell? ⟨b12, 0, none⟩ = some (.int .i64 pv) ∧ W.cell? ⟨b12, 1, none⟩ = some (.slice ua ns.length uc))
                  (first | exact HSK.out _ HBD.out | exact HSK.out _ (HBD.out.trans hb12) | exact HSK.out _ ((HBD.out.trans hb12).trans (hb13.mono (HBD.out.trans hb12).size)))
                  (first | (go_simp; go_at_call 27; refine (HRF.out _ HBD.out).mono ?_; rintro e w12 ⟨rfl, hb12⟩) | (go_simp; go_at_call 32; refine (HSM.out _ (HBD.out.trans hb12)).mono ?_; rintro e w13 ⟨rfl, hb13⟩))
                have hb1113 : Below w11.heap.size w11 w13 := (HBD.out.trans hb12).trans (hb13.mono (HBD.out.trans hb12).size)
                have hb913 : Below w9.heap.size w9 w13 := HB911.out.trans (hb1113.mono HB911.out.size)
                obtain ⟨-, -, y0, y1⟩ := HSK.out _ hb1113
                have hS9 : SwapAt w0 w13 b9 (30 * i + 24) g9 S9 A9 (some (pv, ns)) pv (.slice ua ns.length uc) ∨ True := .inr trivial
                have hk9 := blk_stay hb913 HB9.out
                have f0 := hk9.frozen 0
                have f1 := hk9.frozen 1
                have z0 := hk9.cell (i := 0) rfl
                have z1 := hk9.cell (i := 1) rfl
                have HEND : Hid (SwapAt w0 ((w13.setCell ⟨b9, 0, none⟩ (.int .i64 pv)).setCell ⟨b9, 1, none⟩ (.slice ua ns.length uc)) b9 (30 * i + 24) g9 S9 A9 (some (pv, ns)) pv (.slice ua ns.length uc)) :=
                  ⟨(HP9.out.below hb913).box (((But.refl _ b9 _).setCell (p := ⟨b9, 0, none⟩) (.inr rfl) _).setCell (p := ⟨b9, 1, none⟩) (.inr rfl) _) HN9.out HGE.out, HI9.out, HR9.out, HA.out, (hk9.set 0 _).set 1 _, HN9.out, HGE.out, .inr ⟨ns, rfl, HG.out, HI0.out⟩⟩
                clear hS9 hk9 hb1113 hb913 hb12 hb13 HSK HRF HSM HBD HP9 HB9
                go_simp
                go_wp2_with fail
                go_roundw
                case rel => exact ⟨i + 1, g9, S9, A9, some (pv, ns), pv, .slice ua ns.length uc, by have := HLT.out; omega, by have := HLT.out; omega, rfl, rfl, by go_num, HEND.out.mono (by omega)⟩
                case measure => have := HLT.out; simp [intOf]; omega
              · have hcc : (c == 0) = false := by simpa using hc
                have HLD := Lib.hid (load_pf HP9.out HI9.out HL.out (by rw [read_all HI9.out ha]; exact Fr.Byt.nil))
                rw [read_all HI9.out ha] at HLD
                have HA := Lib.hid ha
                clear ha hc
                go_wp2_with fail
                refine HLD.out.mono ?_; rintro e w10 ⟨hb10, hq⟩
                obtain rfl : e = .returned (.tuple #[.agg #[.int .i64 0, .slice none 0 0], .int .i64 3]) := by
                  rcases hq with ⟨_, h⟩ | ⟨h, _⟩
                  · exact h
                  · cases h
                clear hq HLD
                go_upto_region 25 with fail
                refine Fr.wp_world fun w11 hw11 => ?_
                have hb11 : Below w10.heap.size w10 w11 := by rw [hw11]; exact (Below.refl _ _).alloc (Nat.le_refl _) _
                have hk11 : Blk w11 w10.heap.size 61 [.int .i64 0, .slice none 0 0] := by rw [hw11]; exact Blk.new w10 _ _
                have hb911 : Below w9.heap.size w9 w11 := hb10.trans (hb11.mono hb10.size)
                obtain ⟨b15, hb15⟩ : ∃ b15, b15 = w10.heap.size := ⟨_, rfl⟩
                rw [← hb15] at hk11
                try rw [← hb15]
                have HB911 := Lib.hid hb911
                have HK15 := Lib.hid hk11
                have HM11 := Lib.hid (blk_stay hb911 HM9.out)
                have HK11 := Lib.hid (blk_stay hb911 HB9.out)
                have HBD : Hid (∀ n : Nat, Below w9.heap.size w9 (w11.drewN n)) := fun n => Below.drewN HB911.out n
                have HEND : Hid (∀ W : World, Below w9.heap.size w9 W → SwapAt w0 W b9 (30 * i + 24) g9 S9 A9 none lv lu) := fun W hW =>
                  ⟨HP9.out.below hW, HI9.out, HR9.out, HA.out, blk_stay hW HB9.out, HN9.out, HGE.out, .inl rfl⟩
                clear hw11 hb11 hb10 hb911 hk11 hb15 HK15 HM11 HK11 HP9 HB9
                go_quiet (fail)
                go_upto_region 27 with fail
                go_quiet (fail)
                go_simp
                go_wp2_with fail
                go_roundw
                case rel => exact ⟨i + 1, g9, S9, A9, none, lv, lu, by have := HLT.out; omega, by have := HLT.out; omega, rfl, rfl, by go_num, (HEND.out _ (by first | exact HBD.out _ | exact Below.drewN (HBD.out _) _)).mono (by omega)⟩
                case measure => have := HLT.out; simp [intOf]; omega
              · have hcc : (c == 0) = false := by simpa using hc
                have HA := Lib.hid ha
                have HLD := Lib.hid (load_pf HP9.out HI9.out HL.out (by rw [read_all HI9.out ha]; exact manB_byt lv ns'))
                rw [read_all HI9.out ha] at HLD
                clear ha hc
                go_wp2_with fail
                refine HLD.out.mono ?_; rintro e w10 ⟨hb10, hq⟩
                obtain ⟨u', rfl, hu'⟩ : ∃ u', e = .returned (.tuple #[.agg #[.int .i64 lv, u'], .int .i64 0]) ∧ IntsAt w10 w9.heap.size u' ns' := by
                  rcases hq with ⟨h, _⟩ | ⟨_, ⟨n, ns3, u', hd, rfl, hu⟩ | ⟨hd, _⟩⟩
                  · exact absurd rfl h
                  · rw [show (Option.getD (some (manB lv ns')) []) = manB lv ns' from rfl, decM_enc hg'] at hd
                    cases hd
                    exact ⟨u', rfl, hu⟩
                  · rw [show (Option.getD (some (manB lv ns')) []) = manB lv ns' from rfl, decM_enc hg'] at hd
                    cases hd
                obtain ⟨la, lc, rfl⟩ := hi'.slice
                have HI' := Lib.hid hi'
                have HG' := Lib.hid hg'
                have HD' := Lib.hid hd'
                clear hi' hg' hd'
                obtain ⟨ub, uc', rfl⟩ := hu'.ge
                have HU' := Lib.hid hu'
                have HB10 := Lib.hid hb10
                clear hq hu' hb10 HLD
                go_upto_region 25 with fail
                refine Fr.wp_world fun w11 hw11 => ?_
                have hb11 : Below w10.heap.size w10 w11 := by rw [hw11]; exact (Below.refl _ _).alloc (Nat.le_refl _) _
                have hk11 : Blk w11 w10.heap.size 61 [.int .i64 lv, .slice ub ns'.length uc'] := by rw [hw11]; exact Blk.new w10 _ _
                have hb911 : Below w9.heap.size w9 w11 := HB10.out.trans (hb11.mono HB10.out.size)
                have HU1 := Lib.hid (HU'.out.below hb11).ints
                obtain ⟨b15, hb15⟩ : ∃ b15, b15 = w10.heap.size := ⟨_, rfl⟩
                rw [← hb15] at hk11
                try rw [← hb15]
                have HK15 := Lib.hid hk11
                have HM11 := Lib.hid (blk_stay hb911 HM9.out)
                have HB911 := Lib.hid hb911
                clear hw11 hk11 hb11 hb911 hb15 HU' HB10 HM9
                have HK11 := Lib.hid (blk_stay HB911.out HB9.out)
                have HSK : Hid (∀ W : World, Below w11.heap.size w11 W → (W.cell? ⟨b15, 0, none⟩ = some (.int .i64 lv) ∧ W.cell? ⟨b15, 1, none⟩ = some (.slice ub ns'.length uc') ∧ W.cell? ⟨b12, 0, none⟩ = some (.int .i64 pv) ∧ W.cell? ⟨b12, 1, none⟩ = some (.slice ua ns.length uc) ∧ W.cell? ⟨b9, 0, none⟩ = some (.int .i64 lv) ∧ W.cell? ⟨b9, 1, none⟩ = some (.slice la ns'.length lc))) := fun W hW =>
                  ⟨(blk_stay hW HK15.out).cell (i := 0) rfl, (blk_stay hW HK15.out).cell (i := 1) rfl, (blk_stay hW HM11.out).cell (i := 0) rfl, (blk_stay hW HM11.out).cell (i := 1) rfl, (blk_stay hW HK11.out).cell (i := 0) rfl, (blk_stay hW HK11.out).cell (i := 1) rfl⟩
                have hI := HU.out.ints HG.out.2.1.1
                have hI' := HI'.out
                have hl32 := HG.out.2.1.2
                have hl32' := HG'.out.2.1.2
                have HRF := Lib.hid (fun (W : World) (hW : Below w11.heap.size w11 W) => ref5_any pv (.slice ua ns.length uc) ns W (hI.below (HP9.out.base.trans ((HB911.out.trans (hW.mono HB911.out.size)).mono HP9.out.base.size))))
                have HSM := Lib.hid (fun (W : World) (hW : Below w11.heap.size w11 W) => same5_of lv pv (.slice ub ns'.length uc') (.slice ua ns.length uc) ns' ns W false HD'.out (HU1.out.below hW) (hI.below (HP9.out.base.trans ((HB911.out.trans (hW.mono HB911.out.size)).mono HP9.out.base.size))) (by omega) (by omega))
                have HRF' := Lib.hid (fun (W : World) (hW : Below w11.heap.size w11 W) => ref5_any lv (.slice la ns'.length lc) ns' W (hI'.below (HP9.out.base.trans ((HB911.out.trans (hW.mono HB911.out.size)).mono HP9.out.base.size))))
                have HSM' := Lib.hid (fun (W : World) (hW : Below w11.heap.size w11 W) => same5_of lv lv (.slice ub ns'.length uc') (.slice la ns'.length lc) ns' ns' W true (by simp) (HU1.out.below hW) (hI'.below (HP9.out.base.trans ((HB911.out.trans (hW.mono HB911.out.size)).mono HP9.out.base.size))) (by omega) (by omega))
                have HBD := Lib.hid (⟨rfl, rfl, rfl, Nat.le_refl _, fun _ _ => rfl⟩ : Below w11.heap.size w11 w11.drew)
                clear hl32 hI hl32' hI'
                go_region_held_law (fun W : World => W.cell? ⟨b15, 0, none⟩ = some (.int .i64 lv) ∧ W.cell? ⟨b15, 1, none⟩ = some (.slice ub ns'.length uc') ∧ W.cell? ⟨b12, 0, none⟩ = some (.int .i64 pv) ∧ W.cell? ⟨b12, 1, none⟩ = some (.slice ua ns.length uc) ∧ W.cell? ⟨b9, 0, none⟩ = some (.int .i64 lv) ∧ W.cell? ⟨b9, 1, none⟩ = some (.slice la ns'.length lc))
                  (first | exact HSK.out _ HBD.out | exact HSK.out _ (HBD.out.trans hb12) | exact HSK.out _ ((HBD.out.trans hb12).trans (hb13.mono (HBD.out.trans hb12).size)))
                  (first | (go_simp; go_at_call 27; refine (HRF.out _ HBD.out).mono ?_; rintro e w12 ⟨rfl, hb12⟩) | (go_simp; go_at_call 32; refine (HSM.out _ (HBD.out.trans hb12)).mono ?_; rintro e w13 ⟨rfl, hb13⟩))
                have hb1113 : Below w11.heap.size w11 w13 := (HBD.out.trans hb12).trans (hb13.mono (HBD.out.trans hb12).size)
                have HB13 : Hid (Below w11.heap.size w11 w13.drew) := ⟨hb1113.os, hb1113.tape, hb1113.output, hb1113.size, hb1113.block⟩
                clear hb1113 hb12 hb13 HRF HSM HBD
                go_simp
                go_upto_region 27 with fail
                refine wp_region_held_drew (S := fun W : World => W.cell? ⟨b15, 0, none⟩ = some (.int .i64 lv) ∧ W.cell? ⟨b15, 1, none⟩ = some (.slice ub ns'.length uc') ∧ W.cell? ⟨b12, 0, none⟩ = some (.int .i64 pv) ∧ W.cell? ⟨b12, 1, none⟩ = some (.slice ua ns.length uc) ∧ W.cell? ⟨b9, 0, none⟩ = some (.int .i64 lv) ∧ W.cell? ⟨b9, 1, none⟩ = some (.slice la ns'.length lc)) (by kernel_rfl) (HSK.out _ HB13.out) (fun hHeld0 => ?_)
                refine wpAnyH_take (i := 0) (v := ?_) rfl (by kernel_rfl) (by kernel_rfl) (by kernel_rfl) (fun _ _ _ h => h) (Or.inl ⟨by rfl, ?_⟩) hHeld0 ?_
                rotate_left 1
                · intro ww hSw; (try dsimp only at hSw); (try obtain ⟨s0, s1, s2, s3, s4, s5⟩ := hSw); go_simp <;> with_reducible rfl
                try simp only [Act.put, List.getElem_toArray, List.getElem_cons_zero, List.setIfInBounds_toArray, List.set_cons_zero, List.set_cons_succ]
                refine wpAnyH_take (i := 1) (v := ?_) rfl (by kernel_rfl) (by kernel_rfl) (by kernel_rfl) (fun _ _ _ h => h) (Or.inl ⟨by rfl, ?_⟩) hHeld0 ?_
                rotate_left 1
                · intro ww hSw; (try dsimp only at hSw); (try obtain ⟨s0, s1, s2, s3, s4, s5⟩ := hSw); go_simp <;> with_reducible rfl
                try simp only [Act.put, List.getElem_toArray, List.getElem_cons_zero, List.getElem_cons_succ, List.setIfInBounds_toArray, List.set_cons_zero, List.set_cons_succ]
                refine wpAnyH_take (i := 2) (v := ?_) rfl (by kernel_rfl) (by kernel_rfl) (by kernel_rfl) (fun _ _ _ h => h) (Or.inl ⟨by rfl, ?_⟩) hHeld0 ?_
                rotate_left 1
                · intro ww hSw; (try dsimp only at hSw); (try obtain ⟨s0, s1, s2, s3, s4, s5⟩ := hSw); go_simp <;> with_reducible rfl
                try simp only [Act.put, List.getElem_toArray, List.getElem_cons_zero, List.getElem_cons_succ, List.setIfInBounds_toArray, List.set_cons_zero, List.set_cons_succ]
                refine wpAnyH_take (i := 3) (v := ?_) rfl (by kernel_rfl) (by kernel_rfl) (by kernel_rfl) (fun _ _ _ h => h) (Or.inl ⟨by rfl, ?_⟩) hHeld0 ?_
                rotate_left 1
                · intro ww hSw; (try dsimp only at hSw); (try obtain ⟨s0, s1, s2, s3, s4, s5⟩ := hSw); go_simp <;> with_reducible rfl
                try simp only [Act.put, List.getElem_toArray, List.getElem_cons_zero, List.getElem_cons_succ, List.setIfInBounds_toArray, List.set_cons_zero, List.set_cons_succ]
                refine wpAnyH_take (i := 4) (v := ?_) rfl (by kernel_rfl) (by kernel_rfl) (by kernel_rfl) (fun _ _ _ h => h) (Or.inl ⟨by rfl, ?_⟩) hHeld0 ?_
                rotate_left 1
                · intro ww hSw; (try dsimp only at hSw); (try obtain ⟨s0, s1, s2, s3, s4, s5⟩ := hSw); go_simp <;> with_reducible rfl
                try simp only [Act.put, List.getElem_toArray, List.getElem_cons_zero, List.getElem_cons_succ, List.setIfInBounds_toArray, List.set_cons_zero, List.set_cons_succ]
                refine wpAnyH_take (i := 5) (v := ?_) rfl (by kernel_rfl) (by kernel_rfl) (by kernel_rfl) (fun _ _ _ h => h) (Or.inl ⟨by rfl, ?_⟩) hHeld0 ?_
                rotate_left 1
                · intro ww hSw; (try dsimp only at hSw); (try obtain ⟨s0, s1, s2, s3, s4, s5⟩ := hSw); go_simp <;> with_reducible rfl
                try simp only [Act.put, List.getElem_toArray, List.getElem_cons_zero, List.getElem_cons_succ, List.setIfInBounds_toArray, List.set_cons_zero, List.set_cons_succ]
                refine wpAnyH_take (i := 6) (v := ?_) rfl (by kernel_rfl) (by kernel_rfl) (by kernel_rfl) (fun _ _ _ h => h) (Or.inl ⟨by rfl, ?_⟩) hHeld0 ?_
                rotate_left 1
                · intro ww hSw; (try dsimp only at hSw); (try obtain ⟨s0, s1, s2, s3, s4, s5⟩ := hSw); go_simp <;> with_reducible rfl
                try simp only [Act.put, List.getElem_toArray, List.getElem_cons_zero, List.getElem_cons_succ, List.setIfInBounds_toArray, List.set_cons_zero, List.set_cons_succ]
                refine wpAnyH_take (i := 7) (v := ?_) rfl (by kernel_rfl) (by kernel_rfl) (by kernel_rfl) (fun _ _ _ h => h) (Or.inl ⟨by rfl, ?_⟩) hHeld0 ?_
                rotate_left 1
                · intro ww hSw; (try dsimp only at hSw); (try obtain ⟨s0, s1, s2, s3, s4, s5⟩ := hSw); go_simp <;> with_reducible rfl
                try simp only [Act.put, List.getElem_toArray, List.getElem_cons_zero, List.getElem_cons_succ, List.setIfInBounds_toArray, List.set_cons_zero, List.set_cons_succ]
                refine wpAnyH_take (i := 8) (v := ?_) rfl (by kernel_rfl) (by kernel_rfl) (by kernel_rfl) (fun _ _ _ h => h) (Or.inl ⟨by rfl, ?_⟩) hHeld0 ?_
                rotate_left 1
                · intro ww hSw; (try dsimp only at hSw); (try obtain ⟨s0, s1, s2, s3, s4, s5⟩ := hSw); go_simp <;> with_reducible rfl
                try simp only [Act.put, List.getElem_toArray, List.getElem_cons_zero, List.getElem_cons_succ, List.setIfInBounds_toArray, List.set_cons_zero, List.set_cons_succ]
                refine wpAnyH_take (i := 9) (v := ?_) rfl (by kernel_rfl) (by kernel_rfl) (by kernel_rfl) (fun _ _ _ h => h) (Or.inl ⟨by rfl, ?_⟩) hHeld0 ?_
                rotate_left 1
                · intro ww hSw; (try dsimp only at hSw); (try obtain ⟨s0, s1, s2, s3, s4, s5⟩ := hSw); go_simp <;> with_reducible rfl
                try simp only [Act.put, List.getElem_toArray, List.getElem_cons_zero, List.getElem_cons_succ, List.setIfInBounds_toArray, List.set_cons_zero, List.set_cons_succ]
                refine wpAnyH_take (i := 10) (v := ?_) rfl (by kernel_rfl) (by kernel_rfl) (by kernel_rfl) (fun _ _ _ h => h) (Or.inl ⟨by rfl, ?_⟩) hHeld0 ?_
                rotate_left 1
                · intro ww hSw; (try dsimp only at hSw); (try obtain ⟨s0, s1, s2, s3, s4, s5⟩ := hSw); go_simp <;> with_reducible rfl
                try simp only [Act.put, List.getElem_toArray, List.getElem_cons_zero, List.getElem_cons_succ, List.setIfInBounds_toArray, List.set_cons_zero, List.set_cons_succ]
                refine wpAnyH_take (i := 11) (v := ?_) rfl (by kernel_rfl) (by kernel_rfl) (by kernel_rfl) (fun _ _ _ h => h) (Or.inl ⟨by rfl, ?_⟩) hHeld0 ?_
                rotate_left 1
                · intro ww hSw; (try dsimp only at hSw); (try obtain ⟨s0, s1, s2, s3, s4, s5⟩ := hSw); go_simp <;> with_reducible rfl
                try simp only [Act.put, List.getElem_toArray, List.getElem_cons_zero, List.getElem_cons_succ, List.setIfInBounds_toArray, List.set_cons_zero, List.set_cons_succ]
                refine wpAnyH_take (i := 12) (v := ?_) rfl (by kernel_rfl) (by kernel_rfl) (by kernel_rfl) (fun _ _ _ h => h) (Or.inl ⟨by rfl, ?_⟩) hHeld0 ?_
                rotate_left 1
                · intro ww hSw; (try dsimp only at hSw); (try obtain ⟨s0, s1, s2, s3, s4, s5⟩ := hSw); go_simp <;> with_reducible rfl
                try simp only [Act.put, List.getElem_toArray, List.getElem_cons_zero, List.getElem_cons_succ, List.setIfInBounds_toArray, List.set_cons_zero, List.set_cons_succ]
                refine wpAnyH_ready (rs := [13]) (by kernel_rfl) (by simp) ?_
                refine AllReadyH.cons rfl (fun K hK => ?_) AllReadyH.nil
                go_simp
                go_wp2_with (go_at_call 27; refine (HRF'.out _ HB13.out).mono ?_; rintro e w14 ⟨rfl, hb14⟩)
                refine hK.out _ _ (HSK.out _ (HB13.out.trans (hb14.mono HB13.out.size))) (fun hHeld13 => ?_)
                try simp only [Act.put, List.getElem_toArray, List.getElem_cons_zero, List.getElem_cons_succ, List.setIfInBounds_toArray, List.set_cons_zero, List.set_cons_succ]
                clear hK
                refine wpAnyH_ready (rs := [14]) (by kernel_rfl) (by simp) ?_
                refine AllReadyH.cons rfl (fun K hK => ?_) AllReadyH.nil
                go_simp
                go_wp2_with (go_at_call 32; refine (HSM'.out _ (HB13.out.trans (hb14.mono HB13.out.size))).mono ?_; rintro e w15 ⟨rfl, hb15⟩)
                refine hK.out _ _ (HSK.out _ ((HB13.out.trans (hb14.mono HB13.out.size)).trans (hb15.mono (HB13.out.trans (hb14.mono HB13.out.size)).size))) (fun hHeld14 => ?_)
                try simp only [Act.put, List.getElem_toArray, List.getElem_cons_zero, List.getElem_cons_succ, List.setIfInBounds_toArray, List.set_cons_zero, List.set_cons_succ]
                clear hK
                refine wpAnyH_take (i := 15) (v := ?_) rfl (by kernel_rfl) (by kernel_rfl) (by kernel_rfl) (fun _ _ _ h => h) (Or.inl ⟨by rfl, ?_⟩) hHeld14 ?_
                rotate_left 1
                · intro ww hSw; (try dsimp only at hSw); (try obtain ⟨s0, s1, s2, s3, s4, s5⟩ := hSw); go_simp <;> with_reducible rfl
                try simp only [Act.put, List.getElem_toArray, List.getElem_cons_zero, List.getElem_cons_succ, List.setIfInBounds_toArray, List.set_cons_zero, List.set_cons_succ]
                refine wpAnyH_take (i := 16) (v := ?_) rfl (by kernel_rfl) (by kernel_rfl) (by kernel_rfl) (fun _ _ _ h => h) (Or.inl ⟨by rfl, ?_⟩) hHeld14 ?_
                rotate_left 1
                · intro ww hSw; (try dsimp only at hSw); (try obtain ⟨s0, s1, s2, s3, s4, s5⟩ := hSw); go_simp <;> with_reducible rfl
                try simp only [Act.put, List.getElem_toArray, List.getElem_cons_zero, List.getElem_cons_succ, List.setIfInBounds_toArray, List.set_cons_zero, List.set_cons_succ]
                refine wpAnyH_take (i := 17) (v := ?_) rfl (by kernel_rfl) (by kernel_rfl) (by kernel_rfl) (fun _ _ _ h => h) (Or.inl ⟨by rfl, ?_⟩) hHeld14 ?_
                rotate_left 1
                · intro ww hSw; (try dsimp only at hSw); (try obtain ⟨s0, s1, s2, s3, s4, s5⟩ := hSw); go_simp <;> with_reducible rfl
                try simp only [Act.put, List.getElem_toArray, List.getElem_cons_zero, List.getElem_cons_succ, List.setIfInBounds_toArray, List.set_cons_zero, List.set_cons_succ]
                refine wpAnyH_take (i := 18) (v := ?_) rfl (by kernel_rfl) (by kernel_rfl) (by kernel_rfl) (fun _ _ _ h => h) (Or.inl ⟨by rfl, ?_⟩) hHeld14 ?_
                rotate_left 1
                · intro ww hSw; (try dsimp only at hSw); (try obtain ⟨s0, s1, s2, s3, s4, s5⟩ := hSw); go_simp <;> with_reducible rfl
                try simp only [Act.put, List.getElem_toArray, List.getElem_cons_zero, List.getElem_cons_succ, List.setIfInBounds_toArray, List.set_cons_zero, List.set_cons_succ]
                refine wpAnyH_take (i := 19) (v := ?_) rfl (by kernel_rfl) (by kernel_rfl) (by kernel_rfl) (fun _ _ _ h => h) (Or.inl ⟨by rfl, ?_⟩) hHeld14 ?_
                rotate_left 1
                · intro ww hSw; (try dsimp only at hSw); (try obtain ⟨s0, s1, s2, s3, s4, s5⟩ := hSw); go_simp <;> with_reducible rfl
                try simp only [Act.put, List.getElem_toArray, List.getElem_cons_zero, List.getElem_cons_succ, List.setIfInBounds_toArray, List.set_cons_zero, List.set_cons_succ]
                refine wpAnyH_take (i := 20) (v := ?_) rfl (by kernel_rfl) (by kernel_rfl) (by kernel_rfl) (fun _ _ _ h => h) (Or.inl ⟨by rfl, ?_⟩) hHeld14 ?_
                rotate_left 1
                · intro ww hSw; (try dsimp only at hSw); (try obtain ⟨s0, s1, s2, s3, s4, s5⟩ := hSw); go_simp <;> with_reducible rfl
                try simp only [Act.put, List.getElem_toArray, List.getElem_cons_zero, List.getElem_cons_succ, List.setIfInBounds_toArray, List.set_cons_zero, List.set_cons_succ]
                refine wpAnyH_take (i := 21) (v := ?_) rfl (by kernel_rfl) (by kernel_rfl) (by kernel_rfl) (fun _ _ _ h => h) (Or.inl ⟨by rfl, ?_⟩) hHeld14 ?_
                rotate_left 1
                · intro ww hSw; (try dsimp only at hSw); (try obtain ⟨s0, s1, s2, s3, s4, s5⟩ := hSw); go_simp <;> with_reducible rfl
                try simp only [Act.put, List.getElem_toArray, List.getElem_cons_zero, List.getElem_cons_succ, List.setIfInBounds_toArray, List.set_cons_zero, List.set_cons_succ]
                refine wpAnyH_take (i := 22) (v := undef) rfl (by kernel_rfl) (by kernel_rfl) (by kernel_rfl) (fun _ _ _ h => h) (Or.inr ⟨by rfl, rfl⟩) hHeld14 ?_
                try simp only [Act.put, List.getElem_toArray, List.getElem_cons_zero, List.getElem_cons_succ, List.setIfInBounds_toArray, List.set_cons_zero, List.set_cons_succ]
                refine wpAnyH_take (i := 23) (v := undef) rfl (by kernel_rfl) (by kernel_rfl) (by kernel_rfl) (fun _ _ _ h => h) (Or.inr ⟨by rfl, rfl⟩) hHeld14 ?_
                try simp only [Act.put, List.getElem_toArray, List.getElem_cons_zero, List.getElem_cons_succ, List.setIfInBounds_toArray, List.set_cons_zero, List.set_cons_succ]
                refine wpAnyH_take (i := 24) (v := ?_) rfl (by kernel_rfl) (by kernel_rfl) (by kernel_rfl) (fun _ _ _ h => h) (Or.inl ⟨by rfl, ?_⟩) hHeld14 ?_
                rotate_left 1
                · intro ww hSw; (try dsimp only at hSw); (try obtain ⟨s0, s1, s2, s3, s4, s5⟩ := hSw); go_simp <;> with_reducible rfl
                try simp only [Act.put, List.getElem_toArray, List.getElem_cons_zero, List.getElem_cons_succ, List.setIfInBounds_toArray, List.set_cons_zero, List.set_cons_succ]
                refine wpAnyH_take (i := 25) (v := ?_) rfl (by kernel_rfl) (by kernel_rfl) (by kernel_rfl) (fun _ _ _ h => h) (Or.inl ⟨by rfl, ?_⟩) hHeld14 ?_
                rotate_left 1
                · intro ww hSw; (try dsimp only at hSw); (try obtain ⟨s0, s1, s2, s3, s4, s5⟩ := hSw); go_simp <;> with_reducible rfl
                try simp only [Act.put, List.getElem_toArray, List.getElem_cons_zero, List.getElem_cons_succ, List.setIfInBounds_toArray, List.set_cons_zero, List.set_cons_succ]
                refine wpAnyH_take (i := 26) (v := ?_) rfl (by kernel_rfl) (by kernel_rfl) (by kernel_rfl) (fun _ _ _ h => h) (Or.inl ⟨by rfl, ?_⟩) hHeld14 ?_
                rotate_left 1
                · intro ww hSw; (try dsimp only at hSw); (try obtain ⟨s0, s1, s2, s3, s4, s5⟩ := hSw); go_simp <;> with_reducible rfl
                try simp only [Act.put, List.getElem_toArray, List.getElem_cons_zero, List.getElem_cons_succ, List.setIfInBounds_toArray, List.set_cons_zero, List.set_cons_succ]
                refine wpAnyH_done (by kernel_rfl) ?_ _
                have hb1115 : Below w11.heap.size w11 w15 := (HB13.out.trans (hb14.mono HB13.out.size)).trans (hb15.mono (HB13.out.trans (hb14.mono HB13.out.size)).size)
                have hb915 : Below w9.heap.size w9 w15 := HB911.out.trans (hb1115.mono HB911.out.size)
                have HEND : Hid (SwapAt w0 w15 b9 (30 * i + 24) g9 S9 A9 (some (lv, ns')) lv (.slice la ns'.length lc)) :=
                  ⟨HP9.out.below hb915, HI9.out, HR9.out, HA.out, blk_stay hb915 HB9.out, HN9.out, HGE.out, .inr ⟨ns', rfl, HG'.out, HI'.out⟩⟩
                clear hb1115 hb915 hb14 hb15 HSK HRF' HSM' HP9 HB9
                go_simp
                go_wp2_with fail
                go_roundw
                case rel => exact ⟨i + 1, g9, S9, A9, some (lv, ns'), lv, .slice la ns'.length lc, by have := HLT.out; omega, by have := HLT.out; omega, rfl, rfl, by go_num, HEND.out.mono (by omega)⟩
                case measure => have := HLT.out; simp [intOf]; omega
      · have HC0 : Hid (codeM pv ns = 1) := by show _ = _; unfold codeM; rw [if_neg hg]
        clear hg
        rw [HC0.out]
        go_wp2_with fail
        go_roundw
        case rel => exact ⟨i + 1, g, S, A, m, lv, lu, by have := HLT.out; omega, by have := HLT.out; omega, rfl, rfl, by go_num, HL5.out.mono (by omega)⟩
        case measure => have := HLT.out; simp [intOf]; omega
    · have hor : (¬ (i : Int) < ms.length) ∨ ((i : Int) < ms.length ∧ ¬ (i : Int) < 10) := by omega
      have HF := Lib.hid HLA.out.pf.base
      clear hlt hi10 hil
      rcases hor with l2 | ⟨l2, l3⟩
      all_goals go_wp2_with fail
      all_goals go_ret
      all_goals exact ⟨rfl, HF.out⟩
end Go.Proofs.YtigbgajelkknbaaGreatDoor
