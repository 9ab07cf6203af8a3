/- SeglogKeeps: what was appended with OK is read behind a crash; what was appended without, whole, or not at all, and nothing behind it: walked. -/
import Derived.Test.YtpfbiijcmmkjlaaGreatDoorSgV
namespace Go.Proofs.YtpfbiijcmmkjlaaGreatDoor
open Go.RowKit
set_option maxRecDepth 100000

theorem blk_keep {w w' : World} {g t : Nat} {vs : List Value} (hb : Below w.heap.size w w') (h : Blk w g t vs) : Blk w' g t vs := (hb.block _ h.lt).trans h
/-- The text of what was appended without OK. -/
def lastS (t : Option (List Int)) : ByteArray := match t with
  | none => ⟨#[]⟩
  | some p => strOfNums p
set_option maxHeartbeats 16000000 in
theorem keepsLaw_any (vp vq : Value) (P : List (List Int)) (l : List Int) (x y z : Int) (w0 : World) (hl : NumL w0) (hp : Fr.Parts w0 vp P) (hpl : P.length < 9223372036854775808) (hpy : ∀ i, i < P.length → (P.getD i []).length < 9223372036854775808 ∧ Fr.Byt (P.getD i []))
    (hq : Ints w0 vq l) (hql : l.length < 9223372036854775808) (hqw : ∀ k ∈ l, k ≤ 9223372036854775807) :
    Calls Tryz.prog 4 #[vp, vq, .agg #[.int .i64 x, .int .i64 y, .int .i64 z]] w0 fun e w' => e = .returned (.bool true) ∧ Below w0.heap.size w0 w' := by
  obtain ⟨qa, qc, rfl, -⟩ := hp.open
  obtain ⟨la, lc, rfl⟩ := hq.slice
  obtain ⟨i0, hi, hz0, hz1, hz2⟩ := info_parts strInfo
  have HI := Lib.hid hi
  have HZ0 := Lib.hid hz0
  have HZ1 := Lib.hid hz1
  have HZ2 := Lib.hid hz2
  have HL := Lib.hid hl
  have HP := Lib.hid hp
  have HPY := Lib.hid hpy
  have HQ := Lib.hid hq
  have HQW := Lib.hid hqw
  clear hi hz0 hz1 hz2 hl hp hpy hq hqw
  go_enter Tryz.func4, Tryz.ntmps4
  go_wp2_with fail
  refine calls_world fun wA hwA => ?_
  have hBA : Below w0.heap.size w0 wA := by rw [hwA]; exact (Below.refl _ _).alloc (Nat.le_refl _) _
  have hKA : Blk wA w0.heap.size 59 [.int .i64 x, .int .i64 y, .int .i64 z] := by rw [hwA]; exact Blk.new w0 59 [.int .i64 x, .int .i64 y, .int .i64 z]
  have HLA := Lib.hid (HL.out.below hBA)
  have HPA := Lib.hid (HP.out.below hBA)
  have HQA := Lib.hid (HQ.out.below hBA)
  have HBA := Lib.hid hBA
  have HKA := Lib.hid hKA
  clear hBA hKA hwA HL HP HQ
  refine (awake4_any wA HLA.out).mono ?_; rintro e w1 ⟨rfl, hb1⟩
  have HB1 := Lib.hid hb1
  clear hb1
  by_cases hlong : 100 < l.length
  · have l1 : (100 : Int) < l.length := by omega
    go_wp2_with fail
    refine (awake4_any w1 (HLA.out.below HB1.out)).mono ?_; rintro e w2 ⟨rfl, hb2⟩
    have HB2 := Lib.hid (HBA.out.trans ((HB1.out.trans (hb2.mono HB1.out.size)).mono HBA.out.size))
    clear hb2
    go_wp2_with fail
    go_ret
    exact ⟨rfl, HB2.out⟩
  have l1 : ¬ (100 : Int) < l.length := by omega
  have HQL := Lib.hid (show l.length ≤ 100 by omega)
  clear hlong hql
  go_wp2_with fail
  refine (new_pf 20000 (by omega) (by omega) HB1.out).mono ?_; rintro e w2 ⟨g, S, rfl, hpf, hb2⟩
  have HPF := Lib.hid hpf
  clear hpf hb2 HB1
  go_wp2_with fail
  refine (segCreate_pf 7 HPF.out (Inv.new 20000 (by omega) (by omega)) (by omega) HLA.out.tab).mono ?_; rintro e w4 ⟨b, _, S4, rfl, hpf4, hadv4⟩
  have hkp := KeptI.new 20000 (by omega) (by omega) b
  obtain ⟨hsc, hone, -, -⟩ := seg_create (id := 7) (room := 20000) (by omega) (by omega) (by omega) (by omega) b
  have hby4 := (ByA.new 20000).segCreate 7 b
  have hin4 := inv_segCreate (Inv.new 20000 (by omega) (by omega)) 7 b
  rw [hsc] at hpf4 hkp hby4 hin4 ⊢
  simp only at hpf4 hkp hby4 hin4 ⊢
  have harm : (madeA 20000 (nameV 7) b).armed = false := hone.calm.a
  clear hone
  obtain ⟨A4, hA4⟩ : ∃ A4, A4 = madeA 20000 (nameV 7) b := ⟨_, rfl⟩
  rw [← hA4] at hpf4 hkp hby4 hin4 harm
  have HP4 := Lib.hid hpf4
  have HKP := Lib.hid hkp
  have HY4 := Lib.hid hby4
  have HI4 := Lib.hid hin4
  have HAR := Lib.hid harm
  clear hsc hkp hby4 hin4 harm hA4 hpf4 hadv4 HPF
  go_wp2_with fail
  refine (plan_pf (.slice la l.length lc) l HP4.out (HQA.out.below HP4.out.base) (by have := HQL.out; omega)).mono ?_; rintro e w5 ⟨S5, rfl, hpf5, hadv5⟩
  have hin5 := inv_plan HI4.out l (by have := HQL.out; omega) HQW.out
  have hkp5 : KeptI { A4 with plan := l } b [] none := HKP.out.same rfl rfl rfl rfl
  have hby5 : ByA { A4 with plan := l } := HY4.out.same rfl
  have har5 : ({ A4 with plan := l } : FsA).armed = false := HAR.out
  obtain ⟨A5, hA5⟩ : ∃ A5, A5 = ({ A4 with plan := l } : FsA) := ⟨_, rfl⟩
  rw [← hA5] at hpf5 hin5 hkp5 hby5 har5
  obtain ⟨K, hK, hK2, hK60⟩ := mod_natK 60 x (by omega) (by omega)
  have hrA : armA A5 K = ({ A5 with armed := true, left := (K : Int) }, 0) := by
    unfold armA
    rw [if_neg (by omega), if_neg (by unfold deadB; rw [har5]; simp)]
  have hAM := fun (W : World) (hW : Below w5.heap.size w5 W) => arm_pf (K : Int) (hpf5.below hW)
  rw [hrA] at hAM
  have HAM := Lib.hid hAM
  have hin6 := inv_arm hin5 (K : Int) (by omega)
  rw [hrA] at hin6
  simp only at hin6
  have HI6 := Lib.hid hin6
  have HKP6 : Hid (KeptI { A5 with armed := true, left := (K : Int) } b [] none) := hkp5.same rfl rfl rfl rfl
  have HY6 : Hid (ByA { A5 with armed := true, left := (K : Int) }) := hby5.same rfl
  have HP5 := Lib.hid hpf5
  clear hpf5 hadv5 hin5 hkp5 hby5 har5 hA5 hrA hAM hin6 HP4 HKP HY4 HI4 HAR HQA HQL HQW
  have HBD := Lib.hid (⟨rfl, rfl, rfl, Nat.le_refl _, fun _ _ => rfl⟩ : Below w5.heap.size w5 w5.drew)
  have hbk := blk_keep HP5.out.base HKA.out
  have cx := hbk.cell (i := 0) rfl
  clear hbk
  go_upto_region 7 with fail
  go_region_with (first | (go_at_call 20; refine (HAM.out _ HBD.out).mono ?_; rintro e w6 ⟨S6, rfl, hpf6, hadv6⟩))
  obtain ⟨A6, hA6⟩ : ∃ A6, A6 = ({ A5 with armed := true, left := (K : Int) } : FsA) := ⟨_, rfl⟩
  rw [← hA6] at hpf6 HI6 HKP6 HY6
  have HST : Hid (KeepI wA w6 g S6 A6 12 b [] [] none (.slice none 0 0)) :=
    ⟨hpf6, HI6.out.mono (by omega), HY6.out, HKP6.out, World.ownsRow_nil _ _ _ _, fun k e => (by cases e), fun p hp => (by cases hp), fun p hp => (by cases hp)⟩
  clear hpf6 hadv6 hA6 HI6 HKP6 HY6 HAM HP5 HBD cx hK hK2 hK60
  go_wp2_with fail
  go_loopw [9, 10, 11, 12] (fun s9 s10 s11 s12 wr => ∃ (i : Nat) (S : Nat → Prop) (A : FsA) (ps : List (List Int)) (t : Option (List Int)) (a9 : Option Addr) (n9 c9 : Nat) (T : ByteArray) (cut : Bool), i ≤ 20 ∧ i ≤ P.length ∧ n9 ≤ i ∧ n9 = ps.length ∧
      s12 = .int .i64 i ∧ s9 = .slice a9 n9 c9 ∧ s10 = .string T ∧ s11 = .bool cut ∧ T = lastS t ∧ cut = t.isSome ∧ KeepI wA wr g S A (12 + 6 * i) b ps ps t s9)
    (fun _ _ _ s12 _ => 20 - (intOf s12).toNat)
  case atStart => exact ⟨0, S6, A6, [], none, none, 0, 0, ⟨#[]⟩, false, by omega, by omega, by omega, rfl, rfl, rfl, rfl, rfl, rfl, rfl, HST.out⟩
  case round =>
    clear HST
    obtain ⟨i, S, A, ps, t, a9, n9, c9, T, cut, hi20, hiP, hni, hnp, rfl, rfl, rfl, rfl, hT, hcut, hR⟩ := hrel
    have HR := Lib.hid hR
    have HT := Lib.hid hT
    have HCU := Lib.hid hcut
    have HNP := Lib.hid hnp
    have HNI := Lib.hid hni
    clear hR hT hcut hnp hni
    by_cases hgo : i < P.length ∧ i < 20 ∧ cut = false
    · obtain ⟨h1, h2, rfl⟩ := hgo
      have htn : t = none := by
        have := HCU.out
        cases t with
        | none => rfl
        | some p => exact absurd this (by simp)
      subst htn
      have l2 : (i : Int) < P.length := by omega
      have l3 : (i : Int) < 20 := by omega
      obtain ⟨qa', qc', hqq, hcl⟩ := HPA.out.open
      obtain ⟨qb, qo, u, hqe, hqb, hcu, hbe⟩ := hcl i h1
      cases hqq
      subst hqe
      have hpy := HPY.out i h1
      obtain ⟨p, hp⟩ : ∃ p, p = P.getD i [] := ⟨_, rfl⟩
      rw [← hp] at hbe hpy
      obtain ⟨ua, uc, rfl⟩ := hbe.slice
      have HCL : Hid (∀ W, Below wA.heap.size wA W → W.cell? ⟨qb, qo + i, none⟩ = some (.slice ua p.length uc)) := fun W hb => (hb.cell (p := ⟨qb, qo + i, none⟩) hqb).trans hcu
      have HBE := Lib.hid hbe
      have HPY1 := Lib.hid hpy.2
      have c1 := HCL.out wr HR.out.pf.base
      clear hcl hcu hbe hpy hp hqb
      by_cases h500 : 500 < p.length
      · have l4 : (500 : Int) < p.length := by omega
        clear HCL HBE HPY1
        go_wp2_with fail
        go_roundw
        case rel => exact ⟨i + 1, S, A, ps, none, a9, n9, c9, T, false, by omega, by omega, by have := HNI.out; omega, HNP.out, by go_num, rfl, rfl, rfl, HT.out, rfl, HR.out.mono (by omega)⟩
        case measure => simp [intOf]; omega
      · have l4 : ¬ (500 : Int) < p.length := by omega
        have HP5 := Lib.hid (show p.length ≤ 500 by omega)
        clear h500
        go_wp2_with fail
        refine calls_world fun w6 hw6 => ?_
        have hb6 : Below wr.heap.size wr w6 := by rw [hw6]; exact (Below.refl _ _).alloc (Nat.le_refl _) _
        have hpt : Fr.Parts w6 (.slice (some ⟨wr.heap.size, 0, none⟩) 1 1) [p] := by rw [hw6]; exact one_part (HBE.out.below HR.out.pf.base)
        have hR7 := HR.out.below hb6
        have hap := segAppend_pf 7 1 _ [p] hR7.pf hR7.inv (by omega) HLA.out.tab hpt (by simp) (fun j hj => by
          have h0 : j = 0 := by simpa using hj
          subst h0
          exact ⟨by show p.length < _; have := HP5.out; omega, HPY1.out⟩)
        rw [show ([p] : List (List Int)).flatten = p by simp] at hap
        have hk := hR7.kept.append (p := p) (by have := HP5.out; omega)
        have hin := inv_segAppend hR7.inv 7 1 p
        have hby := hR7.by_.segAppend 7 (k := 1) HPY1.out
        have HR7 := Lib.hid hR7
        clear hw6 hb6 hpt hR7
        generalize segAppendA A 7 1 p = Z at *
        obtain ⟨A7, c7⟩ := Z
        simp only at hap hk hin hby
        have HAP := Lib.hid hap
        have HK := Lib.hid hk
        have HIN := Lib.hid hin
        have HBY := Lib.hid hby
        clear hap hk hin hby
        refine HAP.out.mono ?_; rintro e w7 ⟨S7, rfl, hpf7, hadv7⟩
        have c2 := HCL.out w7 hpf7.base
        have hcv : (convert 37 9 (.slice ua p.length uc)).run Tryz.prog w7 = .ok (.string (strOfNums p)) w7 := Fr.run_stringE (HBE.out.below hpf7.base)
        obtain ⟨T1, hT1⟩ : ∃ T1, T1 = strOfNums p := ⟨_, rfl⟩
        rw [← hT1] at hcv
        have HT1 := Lib.hid hT1
        clear HAP hT1 HCL HBE c1
        rcases HK.out with ⟨hc, hk⟩ | ⟨hc, hk⟩
        · subst hc
          have HR8 := Lib.hid (HR7.out.call hpf7 hadv7 HIN.out HBY.out hk (fun q hq => by
            rcases List.mem_append.1 hq with hq | hq
            · exact HR.out.fit q hq
            · rw [List.mem_singleton] at hq; subst hq; exact ⟨HPY1.out, HP5.out⟩) (fun q hq => by cases hq))
          clear hk hpf7 hadv7 HIN HBY HR7 HK
          have HR9 := Lib.hid (HR8.out.below ((Below.refl w7.heap.size w7).alloc (Nat.le_refl _) (.cells #[.string T1] 9)))
          have HO9 : Hid ((w7.alloc (.cells #[.string T1] 9)).ownsRow wA.heap.size 9 1 (.slice a9 n9 c9) n9 (strV ps)) := by
            have := HR9.out.row
            rwa [← HNP.out] at this
          have HON : Hid (∀ u ∈ [Value.string T1], u.oneCell' = true) := fun u hu => by obtain rfl := List.mem_singleton.1 hu; rfl
          have HLM : Hid (n9 + 1 ≤ maxLen) := by show _ ≤ _; have := HNI.out; unfold maxLen; omega
          have HLB : Hid ((n9 + 1) * 16 ≤ 140737488355328) := by show _ ≤ _; have := HNI.out; omega
          have HSZ : Hid (wA.heap.size ≤ (w7.alloc (.cells #[.string T1] 9)).heap.size) := HR9.out.pf.base.size
          obtain ⟨lV, hlV⟩ : ∃ lV, lV = strV ps := ⟨_, rfl⟩
          rw [← hlV] at HO9
          have HLV := Lib.hid hlV
          clear hlV
          go_wp2_with (with_reducible refine wpList_append_own_at _ rfl (.tmp 83) (.tmp 89) 72 rfl wA.heap.size 9 i0 (.string ⟨#[]⟩) 1 16 Tryz.underlying72 HI.out HZ0.out HZ1.out HZ2.out rfl (by decide) (.slice a9 n9 c9) n9 lV rfl HO9.out ⟨w7.heap.size, 0, none⟩ 1 1 [.string T1] rfl rfl (cell_one_new _ _ _) HON.out HLM.out HLB.out HSZ.out ?_)
          intro v' w9 ho9 hg9 _ hloc
          have hR10 := HR9.out.app (v' := v') (p := p) (by rw [← HNP.out, ← HLV.out, ← HT1.out]; exact ho9) hg9 (hloc.imp id fun e k ek => by rw [e] at ek; cases ek; simp)
          obtain ⟨b9, d9, rfl⟩ := own_slice ho9
          have HR10 := Lib.hid hR10
          clear ho9 hg9 hloc hR10 HO9 HON HLM HLB HSZ HR9 HR8
          go_wp2_with fail
          go_roundw
          case rel => exact ⟨i + 1, S7, A7, ps ++ [p], none, b9, n9 + 1, d9, T, false, by omega, by omega, by have := HNI.out; omega, by rw [List.length_append, ← HNP.out]; rfl, by go_num, rfl, rfl, rfl, HT.out, rfl, HR10.out.mono (by omega)⟩
          case measure => simp [intOf]; omega
        · have hc' : (c7 == 0) = false := by simpa using hc
          have HR8 := Lib.hid (HR7.out.call hpf7 hadv7 HIN.out HBY.out hk HR.out.fit (fun q hq => by cases hq; exact ⟨HPY1.out, HP5.out⟩))
          clear hc hk hpf7 hadv7 HIN HBY HR7 HK
          go_wp2_with fail
          go_roundw
          case rel => exact ⟨i + 1, S7, A7, ps, some p, a9, n9, c9, T1, true, by omega, by omega, by have := HNI.out; omega, HNP.out, by go_num, rfl, rfl, rfl, HT1.out, rfl, HR8.out.mono (by omega)⟩
          case measure => simp [intOf]; omega
    · have hor : (¬ (i : Int) < P.length) ∨ ((i : Int) < P.length ∧ ¬ (i : Int) < 20) ∨ ((i : Int) < P.length ∧ (i : Int) < 20 ∧ cut = true) := by
        cases cut with
        | false =>
          by_cases k1 : i < P.length
          · have : ¬ i < 20 := fun k2 => hgo ⟨k1, k2, rfl⟩
            exact .inr (.inl ⟨by omega, by omega⟩)
          · exact .inl (by omega)
        | true =>
          by_cases k1 : i < P.length
          · by_cases k2 : i < 20
            · exact .inr (.inr ⟨by omega, by omega, rfl⟩)
            · exact .inr (.inl ⟨by omega, by omega⟩)
          · exact .inl (by omega)
      have hnl := HNI.out
      have HNL := Lib.hid (show n9 ≤ 20 by omega)
      have HI20 := Lib.hid hi20
      have hbk := blk_keep HR.out.pf.base HKA.out
      have cy := hbk.cell (i := 1) rfl
      have cz := hbk.cell (i := 2) rfl
      clear hgo hnl hbk hi20 hiP
      rcases hor with l2 | ⟨l2, l3⟩ | ⟨l2, l3, rfl⟩
      all_goals go_wp2_with fail
      all_goals
        refine calls_world fun w6 hw6 => ?_
        have hb6 : Below wr.heap.size wr w6 := by rw [hw6]; exact (Below.refl _ _).alloc (Nat.le_refl _) _
        have hin : Ints w6 (.slice (some ⟨wr.heap.size, 0, none⟩) 1 1) [z] := by
          have hb := Blk.new wr 3 [.int .i64 z]
          rw [hw6]
          exact .inr ⟨wr.heap.size, 0, 1, rfl, hb.lt, hb.range 0 _ fun j v hv => by rw [Nat.zero_add]; exact hv⟩
        have hR6 := HR.out.below hb6
        refine (crash_pf y (.slice (some ⟨wr.heap.size, 0, none⟩) 1 1) [z] hR6.pf hR6.inv (by have := HI20.out; omega) hin (by simp)).mono ?_
        rintro e w7 ⟨g7, S7, bs, rfl, hbl, hnd, hpf7, _, hb7⟩
        obtain ⟨yy, hrd, htx⟩ := hR6.kept.crash hR6.inv (tails := [z]) hbl hnd
        have hI7 := hR6.inv.crash (tails := [z]) hbl
        have hY7 := hR6.by_.crash y [z] bs
        obtain ⟨X, hX⟩ : ∃ X, X = crashA A y [z] bs := ⟨_, rfl⟩
        rw [← hX] at hrd hI7 hY7 hpf7
        have HP7 := Lib.hid hpf7
        have HI7 := Lib.hid hI7
        have HY7 := Lib.hid hY7
        have HRD := Lib.hid hrd
        have HTX := Lib.hid htx
        have HB7 : Hid (Below wr.heap.size wr w7) := hb6.trans (hb7.mono hb6.size)
        clear hw6 hb6 hin hR6 hbl hnd hpf7 hb7 hI7 hY7 hX hrd htx cy cz
      all_goals go_wp2_with fail
      all_goals
        refine calls_world fun w8 hw8 => ?_
        have hb8 : Below w7.heap.size w7 w8 := by rw [hw8]; exact (Below.refl _ _).alloc (Nat.le_refl _) _
        have hin : Ints w8 (.slice (some ⟨w7.heap.size, 0, none⟩) 1 1) [7] := by
          have hb := Blk.new w7 3 [.int .i64 7]
          rw [hw8]
          exact .inr ⟨w7.heap.size, 0, 1, rfl, hb.lt, hb.range 0 _ fun j v hv => by rw [Nat.zero_add]; exact hv⟩
        refine (segRead_pf _ [7] (HP7.out.below hb8) HI7.out HY7.out HLA.out.tab hin (by simp)).mono ?_
        rintro e w9 ⟨hb9, h⟩
        obtain ⟨v, es, bb, rfl, hrd, hen⟩ : ∃ v es bb, e = .returned (.tuple #[v, .bool bb, .int .i64 0]) ∧ ReadsA X [7] (plainE es) bb ∧ Ents w9 w8.heap.size v es := by
          rcases h with ⟨⟨id, hid, hbad⟩, _⟩ | ⟨_, ⟨v, es, bb, he, hr, hn, _⟩ | ⟨j, _, _, hj, _, hbad, _⟩⟩
          · rw [List.mem_singleton] at hid
            subst hid
            exact absurd (codeN_ok (by omega) (by omega)) hbad
          · exact ⟨v, es, bb, he, hr, hn⟩
          · have h0 : j = 0 := by simpa using hj
            subst h0
            exact absurd (by rw [show ([7] : List Int).getD 0 0 = 7 from rfl, HRD.out]) hbad
        obtain ⟨fs, m, _, hsn, hpe, _⟩ := hrd.one
        rw [HRD.out] at hsn
        have hcase := kept_scan HR.out.fit HR.out.fitT HTX.out hsn
        obtain ⟨qs, hfs, hqs⟩ : ∃ qs, fs = onesG qs ∧ (qs = ps ∨ ∃ p, t = some p ∧ qs = ps ++ [p]) := by
          rcases hcase with h | ⟨p, h1, h2⟩
          · exact ⟨ps, h, .inl rfl⟩
          · exact ⟨ps ++ [p], h2, .inr ⟨p, h1, rfl⟩⟩
        rw [hfs] at hpe
        obtain ⟨hel, hget⟩ := ents_one hpe
        have hown := hen.own
        have hpay := hen.pay
        obtain ⟨va, vc, rfl⟩ := hen.slice
        obtain ⟨L, hL⟩ : ∃ L, L = es.length := ⟨_, rfl⟩
        rw [← hL] at hown hel ⊢
        have HOW := Lib.hid hown
        have HPAY := Lib.hid hpay
        have HGET := Lib.hid hget
        have HEL := Lib.hid hel
        have HB79 : Hid (Below w7.heap.size w7 w9) := hb8.trans (hb9.mono hb8.size)
        have HB9 : Hid (Below wr.heap.size wr w9) := HB7.out.trans (HB79.out.mono HB7.out.size)
        have HROW : Hid (w9.ownsRow wA.heap.size 9 1 (.slice a9 n9 c9) n9 (strV ps)) := by
          have := own_stay HR.out.row fun k hk _ => HB9.out.block k hk
          rwa [← HNP.out] at this
        have HFI : Hid (Below w0.heap.size w0 w9) := HBA.out.trans (((HP7.out.below HB79.out).base).mono HBA.out.size)
        have hall : ∀ j, j < n9 → ∃ (p : List Int) (u : Value), es[j]? = some (7, 1, p, u) ∧ (strV ps)[j]? = some (.string (strOfNums p)) := fun j hj => by
          obtain ⟨p, hp⟩ : ∃ p, ps[j]? = some p := ⟨_, List.getElem?_eq_getElem (by rw [← HNP.out]; exact hj)⟩
          obtain ⟨u, hu⟩ := HGET.out j p (by
            rcases hqs with rfl | ⟨_, _, rfl⟩
            · exact hp
            · rw [List.getElem?_append_left (by rw [← HNP.out]; exact hj)]; exact hp)
          exact ⟨p, u, hu, by unfold strV; rw [List.getElem?_map, hp]; rfl⟩
        have HALL := Lib.hid hall
        have hLn : (L = n9 ∨ (L = n9 + 1 ∧ t.isSome = true ∧ ∃ p u, T = strOfNums p ∧ es[n9]? = some (7, 1, p, u))) := by
          rcases hqs with rfl | ⟨p, ht, rfl⟩
          · exact .inl (by rw [hel, HNP.out])
          · obtain ⟨u, hu⟩ := HGET.out n9 p (by rw [HNP.out]; simp)
            exact .inr ⟨by rw [hel, List.length_append, ← HNP.out]; rfl, by rw [ht]; rfl, p, u, by have := HT.out; rw [ht] at this; exact this, hu⟩
        have HNW := Lib.hid hLn
        clear hb8 hin hb9 h hrd hsn hcase hfs hqs hpe hel hget hown hpay hen hall hLn hw8 HP7 HI7 HY7 HRD HTX HGET hL
        have l6 : IntKind.i64.wrap ((n9 : Int) + 1) = n9 + 1 := IntWalk.i64_in _ (by have := HNL.out; omega)
      all_goals rcases HNW.out with hLn | ⟨hLn, hcu, p, u, hTp, heu⟩
      all_goals
        first
        | (have hLn' : n9 = L := hLn.symm
           subst hLn'
           clear HNW)
        | (have hcc := HCU.out
           rw [hcu] at hcc
           cases hcc
           have l5 : ¬ (L : Int) < n9 := by omega
           have l7 : ¬ (n9 : Int) + 1 < L := by omega
           have l8 : (n9 : Int) < L := by omega
           have l9 : ¬ (L : Int) = n9 := by omega
           have HHH := Lib.hid (And.intro hTp heu)
           have HLL := Lib.hid hLn
           clear HNW hLn hcu hTp heu)
      all_goals go_wp2_with fail
      all_goals
        go_loopw [16, 142] (fun _ s142 W => ∃ j : Nat, j ≤ n9 ∧ s142 = .int .i64 j ∧ Below w9.heap.size w9 W) (fun _ s142 _ => n9 - (intOf s142).toNat)
        case atStart => exact ⟨0, Nat.zero_le _, rfl, Below.refl _ _⟩
        case round =>
          obtain ⟨j, hj, rfl, hbq⟩ := hrel
          have HBQ := Lib.hid hbq
          have hn20 := HNL.out
          clear hbq
          by_cases hjn : j < n9
          · have lj : (j : Int) < n9 := by omega
            obtain ⟨p1, u1, hu1, hs1⟩ := HALL.out j hjn
            obtain ⟨q, rfl, _, hql, hcl⟩ := ownsRow_at HOW.out (by omega)
            obtain ⟨q9, rfl, _, hql9, hcl9⟩ := ownsRow_at HROW.out (by omega)
            obtain ⟨_, _, c2⟩ := cellsE_get es j _ hu1
            have hpay1 : Fr.OwnB w9 w8.heap.size u1 p1 := HPAY.out _ (List.mem_of_getElem? hu1)
            obtain ⟨ua1, uc1, rfl⟩ := hpay1.slice
            have d2 : wr.cell? ⟨q, j * 3 + 1 + 1, none⟩ = some (.slice ua1 p1.length uc1) := (HBQ.out.cell (p := ⟨q, j * 3 + 1 + 1, none⟩) hql).trans (hcl _ _ c2)
            have d4 : wr.cell? ⟨q9, j, none⟩ = some (.string (strOfNums p1)) := (HBQ.out.cell (p := ⟨q9, j, none⟩) hql9).trans (hcl9 j _ hs1)
            have hbb : Bytes wr (.slice ua1 p1.length uc1) p1 := (OwnD.bytes hpay1).below HBQ.out
            have hcv : ∀ n, (convert 37 9 (.slice ua1 p1.length uc1)).run Tryz.prog (wr.drewN n) = .ok (.string (strOfNums p1)) (wr.drewN n) := fun n => run_string (hbb.below (Below.drewN (Below.refl _ wr) n))
            generalize strOfNums p1 = T1 at *
            clear hu1 hs1 hcl hcl9 c2 hpay1 hbb hql hql9
            go_upto_region 27 with fail
            go_quiet (fail)
            clear d2 d4 hcv
            go_wp2_with fail
            go_roundw
            case rel => exact ⟨j + 1, by omega, by go_num, Below.drewN HBQ.out _⟩
            case measure => simp [intOf]; omega
          · have lj : ¬ (j : Int) < n9 := by omega
            have HFW : Hid (Below w0.heap.size w0 wr) := HFI.out.trans (HBQ.out.mono HFI.out.size)
            clear hjn
            first
            | (obtain ⟨hTp, heu⟩ := HHH.out
               obtain ⟨q, rfl, _, hql, hcl⟩ := ownsRow_at HOW.out (by omega)
               obtain ⟨_, _, c2⟩ := cellsE_get es n9 _ heu
               have hpay1 : Fr.OwnB w9 w8.heap.size u p := HPAY.out _ (List.mem_of_getElem? heu)
               obtain ⟨ua1, uc1, rfl⟩ := hpay1.slice
               have d2 : wr.cell? ⟨q, n9 * 3 + 1 + 1, none⟩ = some (.slice ua1 p.length uc1) := (HBQ.out.cell (p := ⟨q, n9 * 3 + 1 + 1, none⟩) hql).trans (hcl _ _ c2)
               have hbb : Bytes wr (.slice ua1 p.length uc1) p := (OwnD.bytes hpay1).below HBQ.out
               have hcv : (convert 37 9 (.slice ua1 p.length uc1)).run Tryz.prog wr = .ok (.string T) wr := by rw [hTp]; exact run_string hbb
               clear hTp heu hcl c2 hpay1 hbb hql
               go_wp2_with fail
               go_ret
               exact ⟨rfl, HFW.out⟩)
            | (go_wp2_with fail
               go_ret
               exact ⟨rfl, HFW.out⟩)
end Go.Proofs.YtpfbiijcmmkjlaaGreatDoor
