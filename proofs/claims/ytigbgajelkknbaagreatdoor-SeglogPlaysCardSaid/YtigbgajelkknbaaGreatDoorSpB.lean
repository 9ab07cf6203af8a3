/- SeglogPlays: whatever segments are created and appended, whatever happens to the file system, all answers, and all steps, are the document's; so is what is read: walked. -/
import Derived.Test.YtigbgajelkknbaaGreatDoorSpA
namespace Go.Proofs.YtigbgajelkknbaaGreatDoor
open Go.RowKit Go.Maps Go.WideMaps
set_option maxRecDepth 100000

/-- The cells of ten. -/
theorem Blk.ten {w : World} {g : Nat} {t : TypeId} {a0 a1 a2 a3 a4 a5 a6 a7 a8 a9 : Value} (h : Blk w g t [a0, a1, a2, a3, a4, a5, a6, a7, a8, a9]) :
    w.cell? ⟨g, 0, none⟩ = some a0 ∧ w.cell? ⟨g, 1, none⟩ = some a1 ∧ w.cell? ⟨g, 2, none⟩ = some a2 ∧ w.cell? ⟨g, 3, none⟩ = some a3 ∧ w.cell? ⟨g, 4, none⟩ = some a4 ∧ w.cell? ⟨g, 5, none⟩ = some a5 ∧ w.cell? ⟨g, 6, none⟩ = some a6 ∧ w.cell? ⟨g, 7, none⟩ = some a7 ∧ w.cell? ⟨g, 8, none⟩ = some a8 ∧ w.cell? ⟨g, 9, none⟩ = some a9 :=
  ⟨h.cell rfl, h.cell rfl, h.cell rfl, h.cell rfl, h.cell rfl, h.cell rfl, h.cell rfl, h.cell rfl, h.cell rfl, h.cell rfl⟩
/-- From what a call of the reference answers to what stands. -/
theorem ref_next {w0 w w1 w2 : World} {g b7 : Nat} {S : Nat → Prop} {A : FsA} {R : RSt} {v : Value} (hp : PF w0 w1 g S A) (hz : w.heap.size ≤ w1.heap.size) (hr : RFs (fun k => (¬ S k ∧ k ≠ b7) ∨ w1.heap.size ≤ k) w2 v R) : RFs (fun k => ¬ S k ∧ (k ≠ b7 ∨ w.heap.size ≤ k)) w2 v R :=
  hr.mono fun k hk => hk.elim (fun h => ⟨h.1, .inl h.2⟩) fun h => ⟨fun hS => by have := (hp.lo k hS).2; omega, .inr (by omega)⟩
theorem adv_rfs {w w' : World} {b7 : Nat} {S S' : Nat → Prop} {R : RSt} {v : Value} (ha : Adv S S' w w') (hr : RFs (fun k => ¬ S k ∧ k ≠ b7) w v R) : RFs (fun k => ¬ S' k ∧ k ≠ b7) w' v R :=
  (hr.lt.to fun _ hk => (ha.block hk.2 hk.1.1).1).mono fun _ hk => ⟨(ha.block hk.2 hk.1.1).2, hk.1.2⟩
set_option maxHeartbeats 16000000 in
theorem playsLaw4_any (v vi : Value) (ops : List OpG) (ids : List Int) (w0 : World) (hl : NumL w0) (h : OpsAtG w0 v ops) (hok : OpsOkG ops) (hv : Ints w0 vi ids) (hil : ids.length < 9223372036854775808) :
    Calls Tryz.prog 3 #[v, vi] w0 fun e w' => e = .returned (.bool true) ∧ Below w0.heap.size w0 w' := by
  obtain ⟨va, vc, rfl⟩ := h.slice
  obtain ⟨ia, ic, rfl⟩ := hv.slice
  have HL := Lib.hid hl
  have HOP := Lib.hid h
  have HOK := Lib.hid hok
  have HV := Lib.hid hv
  clear h hok hl hv
  go_enter Tryz.func3, Tryz.ntmps3
  go_wp2_with fail
  refine (awake4_any w0 HL.out).mono ?_; rintro e w1 ⟨rfl, hb1⟩
  have HB1 := Lib.hid hb1
  clear hb1
  by_cases hlong : 20 < ids.length
  · have l1 : (20 : Int) < ids.length := by omega
    go_wp2_with fail
    refine (awake4_any w1 (HL.out.below HB1.out)).mono ?_; rintro e w2 ⟨rfl, hb2⟩
    have HB2 := Lib.hid (HB1.out.trans (hb2.mono HB1.out.size))
    clear hb2
    go_wp2_with fail
    go_ret
    exact ⟨rfl, HB2.out⟩
  have l1 : ¬ (20 : Int) < ids.length := by omega
  have HIL := Lib.hid (show ids.length ≤ 20 by omega)
  clear hlong hil
  go_wp2_with fail
  refine (new_pf 20000 (by omega) (by omega) HB1.out).mono ?_; rintro e w2 ⟨g, S, rfl, hpf, hb2⟩
  have HPF := Lib.hid hpf
  clear hpf hb2
  have hRN : newR 20000 = ({ emptyR with room := 20000, left := -1 }, 0) := by unfold newR; rw [if_neg (by omega), if_neg (by omega)]
  have hNW := refNew_any (fun k => ¬ S k ∧ k ≠ k) 20000 w2
  rw [hRN] at hNW
  have HNW := Lib.hid hNW
  clear hNW hRN
  go_wp2_with fail
  refine HNW.out.mono ?_; rintro e w3 ⟨v3, rfl, hrf, hb3⟩
  obtain ⟨fa, fc, da, dc, sa, sc, ca, cc, pa, pc, cvs, rfl, -⟩ := hrf.parts
  obtain ⟨R0, hR0⟩ : ∃ R0 : RSt, R0 = { emptyR with room := 20000, left := -1 } := ⟨_, rfl⟩
  have hsim := sim_new 20000
  rw [← hR0] at hrf hsim
  go_upto_region 5 with fail
  refine wp_world fun w4 hw4 => ?_
  have hk7 : Blk w4 w3.heap.size 33 [.int .i64 R0.room, .slice fa R0.files.length fc, .slice da R0.dir.length dc, .slice sa R0.sure.length sc, .slice ca R0.changes.length cc, .int .i64 R0.steps, .int .i64 R0.left, .slice pa R0.plan.length pc] := by rw [hw4, hR0]; exact Blk.new w3 33 _
  have hb4 : Below w3.heap.size w3 w4 := by rw [hw4]; exact (Below.refl _ _).alloc (Nat.le_refl _) _
  clear hw4
  have hpf3 := HPF.out.below hb3
  have hbo : Both w0 w4 w3.heap.size 0 g S (newA 20000) R0 fa fc da dc sa sc ca cc pa pc :=
    ⟨hk7, ((hrf.lt.below hb4).mono fun k hk => ⟨hk.1.1, by have := hk.2; omega⟩), hpf3.below hb4, Inv.new 20000 (by omega) (by omega), hsim, fun e => by have := (hpf3.lo _ e).2; omega, hpf3.base.size⟩
  obtain ⟨b7, hb7⟩ : ∃ b7, b7 = w3.heap.size := ⟨_, rfl⟩
  rw [← hb7] at hbo
  try rw [← hb7]
  clear hk7 hb4 hb3 hrf hsim hpf3 hb7 hR0 HPF HNW HB1
  go_wp2_with fail
  go_loopw [5, 9] (fun s5 s9 wr => ∃ (i g : Nat) (S : Nat → Prop) (A : FsA) (R : RSt) (fa : Option Addr) (fc : Nat) (da : Option Addr) (dc : Nat) (sa : Option Addr) (sc : Nat) (ca : Option Addr) (cc : Nat) (pa : Option Addr) (pc : Nat), i ≤ 40 ∧ i ≤ ops.length ∧ s5 = .pointer (some ⟨g, 0, none⟩) ∧ s9 = .int .i64 i ∧ Both w0 wr b7 (6 * i) g S A R fa fc da dc sa sc ca cc pa pc ∧ ByA A)
    (fun _ s9 _ => 40 - (intOf s9).toNat)
  case atStart => exact ⟨0, g, S, _, R0, fa, fc, da, dc, sa, sc, ca, cc, pa, pc, Nat.zero_le _, Nat.zero_le _, rfl, rfl, hbo, ByA.new 20000⟩
  case round =>
    clear hbo
    obtain ⟨i, g, S, A, R, fa, fc, da, dc, sa, sc, ca, cc, pa, pc, hi40, hil, rfl, rfl, hbo, hby⟩ := hrel
    have HBO := Lib.hid hbo
    have HBY := Lib.hid hby
    clear hbo hby
    by_cases hlt : i < ops.length ∧ i < 40
    · have l2 : (i : Int) < ops.length := by omega
      have l3 : (i : Int) < 40 := by omega
      have hoi := List.getElem?_eq_getElem hlt.1
      have hok := HOK.out _ (List.getElem_mem hlt.1)
      generalize ops[i] = op at hoi hok
      rcases HOP.out with ⟨_, h0⟩ | ⟨b, o, cap, hv, hb, hc⟩
      · rw [h0] at hoi; cases hoi
      obtain ⟨pv, dv, lv, hpv, hdv, hlv, hcc⟩ := hc i op hoi
      cases hv
      obtain ⟨qa, qc, rfl, -⟩ := hpv.open
      obtain ⟨oa, oc, rfl⟩ := hdv.slice
      obtain ⟨la, lc, rfl⟩ := hlv.slice
      have HPV := Lib.hid hpv
      have HDV := Lib.hid hdv
      have HLV := Lib.hid hlv
      have HOP1 := Lib.hid hok
      obtain ⟨q0, q1, q2, q3, q4, q5, q6, q7, q8, q9⟩ := hcc wr (HBO.out.2.2.1.base.block b hb)
      have HHI := Lib.hid (show i ≤ 40 by omega)
      have HLT := Lib.hid hlt
      clear hoi hok hc hpv hdv hlv hcc hb hi40 hil hlt
      go_wp2_with fail
      refine calls_world fun w5 hw5 => ?_
      have hb5 : Below wr.heap.size wr w5 := by rw [hw5]; exact (Below.refl _ _).alloc (Nat.le_refl _) _
      have hko : Blk w5 wr.heap.size 41 [.int .i64 op.kind, .int .i64 op.id, .int .i64 op.type, .slice qa op.parts.length qc, .int .i64 op.fs.kind, .int .i64 op.fs.num, .string op.fs.name, .string op.fs.dest, .slice oa op.fs.data.length oc, .slice la op.fs.nums.length lc] := by rw [hw5]; exact Blk.new wr 41 [.int .i64 op.kind, .int .i64 op.id, .int .i64 op.type, .slice qa op.parts.length qc, .int .i64 op.fs.kind, .int .i64 op.fs.num, .string op.fs.name, .string op.fs.dest, .slice oa op.fs.data.length oc, .slice la op.fs.nums.length lc]
      clear hw5 q0 q1 q2 q3 q4 q5 q6 q7 q8 q9
      refine (fits4_any op qa qc oa oc la lc w5 (HPV.out.below (HBO.out.2.2.1.below hb5).base)).mono ?_; rintro e w6 ⟨fb, rfl, hsoon, hb6⟩
      obtain ⟨hk7, hrf, hpf, hinv, hsim, hnb, hb7⟩ := HBO.out
      have hb56 : Below wr.heap.size wr w6 := hb5.trans (hb6.mono hb5.size)
      have hpf6 := hpf.below hb56
      have hk76 := blk_on hb56 hk7
      have hrf6 := hrf.below hb56
      have hko6 := blk_on hb6 hko
      have hno : ¬ S wr.heap.size := fun e => by have := (hpf.lo _ e).2; omega
      cases fb with
      | false =>
        have HB6 : Hid (Both w0 w6 b7 (6 * (i + 1)) g S A R fa fc da dc sa sc ca cc pa pc) := ⟨hk76, hrf6, hpf6, hinv.mono (by omega), hsim, hnb, hb7⟩
        clear hk7 hrf hpf hinv hsim hnb hb7 hb56 hpf6 hk76 hrf6 hko6 hno hb5 hb6 hko hsoon
        go_wp2_with fail
        go_roundw
        case rel => exact ⟨i + 1, g, S, A, R, fa, fc, da, dc, sa, sc, ca, cc, pa, pc, by have := HLT.out; omega, by have := HLT.out; omega, rfl, by go_num, HB6.out, HBY.out⟩
        case measure => have := HLT.out; simp [intOf]; omega
      | true =>
        have HSN := Lib.hid (hsoon rfl)
        have HB6 : Hid (Both w0 w6 b7 (6 * i) g S A R fa fc da dc sa sc ca cc pa pc) := ⟨hk76, hrf6, hpf6, hinv, hsim, hnb, hb7⟩
        obtain ⟨b10, hb10⟩ : ∃ b10, b10 = wr.heap.size := ⟨_, rfl⟩
        rw [← hb10] at hko6 hno
        try rw [← hb10]
        have HKO := Lib.hid hko6
        have HNO := Lib.hid hno
        clear hk7 hrf hpf hinv hsim hnb hb7 hb56 hpf6 hk76 hrf6 hko6 hno hb5 hb6 hko hsoon hb10 HBO
        obtain ⟨kd, hkd⟩ : ∃ kd, kd = op.kind := ⟨_, rfl⟩
        rw [← hkd] at HKO
        clear hkd
        obtain ⟨o0, o1, o2, o3, o4, o5, o6, o7, o8, o9⟩ := HKO.out.ten
        go_upto_region 12 with fail
        go_upto_block 2 with fail
        clear o0 o1 o2 o3 o4 o5 o6 o7 o8 o9
        go_cut [5, 11, 12, 13] (fun s5 s11 s12 s13 wx => ∃ (g : Nat) (S : Nat → Prop) (A : FsA) (R : RSt) (c : Int) (fa : Option Addr) (fc : Nat) (da : Option Addr) (dc : Nat) (sa : Option Addr) (sc : Nat) (ca : Option Addr) (cc : Nat) (pa : Option Addr) (pc : Nat), s5 = .pointer (some ⟨g, 0, none⟩) ∧ s11 = .int .i64 c ∧ s12 = .int .i64 c ∧ s13 = .bool true ∧ Both w0 wx b7 (6 * i + 6) g S A R fa fc da dc sa sc ca cc pa pc ∧ ByA A)
        case rest =>
          clear HB6 HKO HNO HSN HPV HDV HLV HOP1 HBY
          obtain ⟨g2, S2, A2, R2, c2, fa2, fc2, da2, dc2, sa2, sc2, ca2, cc2, pa2, pc2, rfl, rfl, rfl, rfl, hb2, hby2⟩ := hcut
          have HB2 := Lib.hid hb2
          have HBY2 := Lib.hid hby2
          have hi40 := HHI.out
          clear hb2 hby2
          obtain ⟨x0, x1, x2, x3, x4, x5, x6, x7, -⟩ := HB2.out.1.fs
          have HTA := Lib.hid (fun (W : World) (hW : Below wc.heap.size wc W) => tells_any (.agg #[.int .i64 R2.room, .slice fa2 R2.files.length fc2, .slice da2 R2.dir.length dc2, .slice sa2 R2.sure.length sc2, .slice ca2 R2.changes.length cc2, .int .i64 R2.steps, .int .i64 R2.left, .slice pa2 R2.plan.length pc2]) W (HB2.out.2.2.1.below hW) HB2.out.2.2.2.1 (by omega) HB2.out.2.2.2.2.1 ((HB2.out.2.1.below hW).mono fun k hk => hk.1))
          go_wp2_with fail
          refine (HTA.out _ (Below.refl _ _)).mono ?_; rintro e w8 ⟨rfl, hb8⟩
          obtain ⟨hB1, hB2, hB3, hB4, hB5, hB6, hB7⟩ := HB2.out
          have HB9 : Hid (Both w0 w8 b7 (6 * (i + 1)) g2 S2 A2 R2 fa2 fc2 da2 dc2 sa2 sc2 ca2 cc2 pa2 pc2) := ⟨blk_on hb8 hB1, hB2.below hb8, hB3.below hb8, hB4, hB5, hB6, hB7⟩
          clear hB1 hB2 hB3 hB4 hB5 hB6 hB7 hb8 x0 x1 x2 x3 x4 x5 x6 x7 HTA HB2
          go_wp2_with fail
          go_roundw
          case rel => exact ⟨i + 1, g2, S2, A2, R2, fa2, fc2, da2, dc2, sa2, sc2, ca2, cc2, pa2, pc2, by have := HLT.out; omega, by have := HLT.out; omega, rfl, by go_num, HB9.out, HBY2.out⟩
          case measure => have := HLT.out; simp [intOf]; omega
        case first =>
          have hi40 := HHI.out
          by_cases hk0 : kd = 0
          · subst hk0
            obtain ⟨hk7, hrf, hpf, hinv, hsim, hnb, hb7⟩ := HB6.out
            have HPL := Lib.hid (playB_any (P := fun k => k ≠ b7) _ (.agg #[.int .i64 op.fs.kind, .int .i64 op.fs.num, .string op.fs.name, .string op.fs.dest, .slice oa op.fs.data.length oc, .slice la op.fs.nums.length lc]) op.fs hpf hinv (by omega) hsim hrf (fun k hk => by omega) ⟨_, _, rfl, HDV.out, HLV.out⟩ ⟨HSN.out.data, HSN.out.nums, HOP1.out.1, HOP1.out.2.1, HOP1.out.2.2.1, HOP1.out.2.2.2.1⟩ HBY.out HOP1.out.2.2.2.2.1)
            clear hk7 hrf hpf hinv hsim hnb hb7
            obtain ⟨o0, o1, o2, o3, o4, o5, o6, o7, o8, o9⟩ := HKO.out.ten
            obtain ⟨x0, x1, x2, x3, x4, x5, x6, x7, -⟩ := HB6.out.1.fs
            go_wp2_with fail
            refine HPL.out.mono ?_; rintro e w7 ⟨g2, S2, A2, R2, v2, rfl, hpf2, ⟨hinv2, hby2⟩, hsim2, hrf2, hadv2⟩
            obtain ⟨fa2, fc2, da2, dc2, sa2, sc2, ca2, cc2, pa2, pc2, cvs2, rfl, -⟩ := hrf2.parts
            clear o0 o1 o2 o3 o4 o5 o6 o7 o8 o9 x0 x1 x2 x3 x4 x5 x6 x7 HPL
            have hB := Both.next (n := 6 * i + 6) HB6.out.1 HB6.out.2.2.2.2.2.1 HB6.out.2.2.2.2.2.2 hpf2 (hinv2.mono (by omega)) hsim2 hrf2 hadv2
            have hk72 := (hadv2.blk HB6.out.1 HB6.out.2.2.2.2.2.1).1
            obtain ⟨x0, x1, x2, x3, x4, x5, x6, x7, y0, y1, y2, y3, y4, y5, y6, y7⟩ := hk72.fs
            have HBB := Lib.hid hB
            have HBY2 := Lib.hid hby2
            clear hB hby2 hk72 hpf2 hinv2 hsim2 hrf2 hadv2
            go_wp2_with fail
            go_meet
            have hB := HBB.out
            unfold putFS at hB
            exact ⟨g2, S2, A2, R2, 0, fa2, fc2, da2, dc2, sa2, sc2, ca2, cc2, pa2, pc2, rfl, rfl, rfl, rfl, hB, HBY2.out⟩
          by_cases hk1 : kd = 1
          · subst hk1
            obtain ⟨hk7, hrf, hpf, hinv, hsim, hnb, hb7⟩ := HB6.out
            have hROK := hsim.ok hinv (by omega)
            have hRst : R.steps < 4611686018427387903 := by rw [hsim.steps]; have := hinv.c; omega
            have hRfl : R.files.length < 4000 := by have := hsim.created; have := hinv.cr; omega
            have HCR := Lib.hid (segCreate_pf op.id hpf hinv (by omega) HL.out.tab)
            have HSI := Lib.hid (fun (b' : Nat) (hb' : A.file b' = none) => sim_segCreate hsim hinv op.id hb')
            have HK2 := Lib.hid (fun (b' : Nat) (hb' : A.file b' = none) => (sim_create hsim hinv (nameV op.id) hb').1.ok (inv_create hinv (nameV op.id) b') (by omega))
            have HII := Lib.hid (fun (b' : Nat) => inv_segCreate hinv op.id b')
            have HRF := Lib.hid hrf
            have HRO := Lib.hid (And.intro hROK (And.intro hRst hRfl))
            clear hk7 hrf hpf hinv hsim hnb hb7 hROK hRst hRfl
            obtain ⟨o0, o1, o2, o3, o4, o5, o6, o7, o8, o9⟩ := HKO.out.ten
            go_wp2_with fail
            refine HCR.out.mono ?_; rintro e w7 ⟨b', hbn, S2, rfl, hpf2, hadv2⟩
            have hsim2 := HSI.out b' hbn
            have hinv2 := HII.out b'
            have hby2 := HBY.out.segCreate op.id b'
            have href := refSegCreate_any (P := fun k => ¬ S2 k ∧ k ≠ b7) _ R op.id w7 (adv_rfs hadv2 HRF.out) HRO.out.1 (HK2.out b' hbn) HRO.out.2.1 HRO.out.2.2
            generalize segCreateA A op.id b' = Y at *
            generalize segCreateR R op.id = Z at *
            obtain ⟨Y1, Y2⟩ := Y
            obtain ⟨R2, Z2⟩ := Z
            simp only at hsim2 hinv2 hby2 href hpf2
            obtain ⟨hsim2, rfl⟩ := hsim2
            have HREF := Lib.hid href
            have HP2 := Lib.hid hpf2
            have HA2 := Lib.hid hadv2
            have HI2 := Lib.hid hinv2
            have HS2 := Lib.hid hsim2
            have HBY2 := Lib.hid hby2
            clear o0 o1 o2 o3 o4 o5 o6 o7 o8 o9 href hpf2 hadv2 hinv2 hsim2 hby2 HCR HSI HK2 HII HRF HRO hbn
            obtain ⟨o0, o1, o2, o3, o4, o5, o6, o7, o8, o9⟩ := (HA2.out.blk HKO.out HNO.out).1.ten
            obtain ⟨x0, x1, x2, x3, x4, x5, x6, x7, -⟩ := (HA2.out.blk HB6.out.1 HB6.out.2.2.2.2.2.1).1.fs
            go_wp2_with fail
            refine HREF.out.mono ?_; rintro e w8 ⟨v2, rfl, hr8, hb8⟩
            obtain ⟨fa2, fc2, da2, dc2, sa2, sc2, ca2, cc2, pa2, pc2, cvs2, rfl, -⟩ := hr8.parts
            clear o0 o1 o2 o3 o4 o5 o6 o7 o8 o9 x0 x1 x2 x3 x4 x5 x6 x7 HREF
            have hadv8 := HA2.out.trans (Adv.of_below hb8)
            have hB := Both.next (n := 6 * i + 6) HB6.out.1 HB6.out.2.2.2.2.2.1 HB6.out.2.2.2.2.2.2 (HP2.out.below hb8) HI2.out HS2.out (ref_next (w := w6) HP2.out HA2.out.keep.size hr8) hadv8
            have hk72 := (hadv8.blk HB6.out.1 HB6.out.2.2.2.2.2.1).1
            obtain ⟨x0, x1, x2, x3, x4, x5, x6, x7, y0, y1, y2, y3, y4, y5, y6, y7⟩ := hk72.fs
            have HBB := Lib.hid hB
            clear hB hk72 hr8 hb8 hadv8
            go_wp2_with fail
            go_meet
            have hB := HBB.out
            unfold putFS at hB
            exact ⟨g, S2, Y1, R2, _, fa2, fc2, da2, dc2, sa2, sc2, ca2, cc2, pa2, pc2, rfl, rfl, rfl, rfl, hB, HBY2.out⟩
          by_cases hk2 : kd = 2
          · subst hk2
            obtain ⟨hk7, hrf, hpf, hinv, hsim, hnb, hb7⟩ := HB6.out
            have hROK := hsim.ok hinv (by omega)
            have hRW := hsim.well hinv
            have hRst : R.steps < 4611686018427387903 := by rw [hsim.steps]; have := hinv.c; omega
            have hRrm : 0 ≤ R.room ∧ R.room ≤ 1048576 := by rw [hsim.room]; have := hinv.room; omega
            have hRpl : ∀ k ∈ R.plan, k ≤ 9223372036854775807 := by rw [hsim.plan]; exact hinv.po
            have hyp : Fr.Byt op.parts.flatten := flat_byt HOP1.out.2.2.2.2.2.2
            have h2 := (sim_append hsim hinv (nameV op.id) (Fr.frameI op.type op.parts.flatten)).1
            have i2 := inv_append hinv (nameV op.id) (Fr.frameI op.type op.parts.flatten)
            have HCR := Lib.hid (segAppend_pf op.id op.type (.slice qa op.parts.length qc) op.parts hpf hinv (by omega) HL.out.tab (HPV.out.below hpf.base) (by have := HSN.out.parts; omega) (fun j hj => ⟨by have := HSN.out.each j hj; omega, HOP1.out.2.2.2.2.2.2 j hj⟩))
            have HRR := Lib.hid (fun (Q : Nat → Prop) (W : World) (v1 : Value) (hr : RFs Q W v1 R) => refSegAppend_any v1 R op.id op.type op.parts.flatten W hr hyp hROK hRW (h2.ok i2 (by omega)) (h2.well i2) hRst (by rw [h2.steps]; have := i2.c; omega) hRrm hRpl)
            have hsim2 := sim_segAppend hsim hinv op.id op.type op.parts.flatten
            have hinv2 := inv_segAppend hinv op.id op.type op.parts.flatten
            have hby2 := HBY.out.segAppend op.id (k := op.type) hyp
            have HJO := Lib.hid (fun (W : World) (hp : Fr.Parts W (.slice qa op.parts.length qc) op.parts) => joined4_any (.slice qa op.parts.length qc) op.parts W hp HSN.out.parts HSN.out.each)
            have HRF := Lib.hid hrf
            clear hk7 hrf hpf hinv hsim hnb hb7 hROK hRW hRst hRrm hRpl hyp h2 i2
            generalize segAppendA A op.id op.type op.parts.flatten = Y at *
            generalize segAppendR R op.id op.type op.parts.flatten = Z at *
            generalize strOfNums op.parts.flatten = PJ at *
            obtain ⟨Y1, Y2⟩ := Y
            obtain ⟨R2, Z2⟩ := Z
            simp only at hsim2 hinv2 hby2 HRR HCR
            obtain ⟨hsim2, rfl⟩ := hsim2
            have HI2 := Lib.hid hinv2
            have HS2 := Lib.hid hsim2
            have HBY2 := Lib.hid hby2
            clear hsim2 hinv2 hby2
            obtain ⟨o0, o1, o2, o3, o4, o5, o6, o7, o8, o9⟩ := HKO.out.ten
            go_wp2_with fail
            refine HCR.out.mono ?_; rintro e w7 ⟨S2, rfl, hpf2, hadv2⟩
            have HP2 := Lib.hid hpf2
            have HA2 := Lib.hid hadv2
            clear o0 o1 o2 o3 o4 o5 o6 o7 o8 o9 hpf2 hadv2 HCR
            have HBD := Lib.hid (⟨rfl, rfl, rfl, Nat.le_refl _, fun _ _ => rfl⟩ : Below w7.heap.size w7 w7.drew)
            have HJ2 := Lib.hid (fun (W : World) (hW : Below w7.heap.size w7 W) => HJO.out W ((HPV.out.below HP2.out.base).below hW))
            have HR2 := Lib.hid (fun (W : World) (hW : Below w7.heap.size w7 W) => HRR.out _ W _ ((adv_rfs HA2.out HRF.out).below hW))
            clear HJO HRR HRF
            go_upto_region 21 with fail
            have HNE : Hid (b10 ≠ b7) := fun e => by
              have h1 := HKO.out
              have h2 := HB6.out.1
              rw [e] at h1
              unfold Blk at h1 h2
              rw [h1] at h2
              injection h2 with h2
              injection h2 with _ h3
              exact absurd h3 (by decide)
            have HSK : Hid (∀ W, Below w7.heap.size w7 W → (W.cell? ⟨b10, 1, none⟩ = some (.int .i64 op.id) ∧ W.cell? ⟨b10, 2, none⟩ = some (.int .i64 op.type) ∧ W.cell? ⟨b10, 3, none⟩ = some (.slice qa op.parts.length qc))) := fun W hW => by
              obtain ⟨o0, o1, o2, o3, o4, o5, o6, o7, o8, o9⟩ := (blk_on hW (HA2.out.blk HKO.out HNO.out).1).ten
              exact ⟨o1, o2, o3⟩
            have HSP : Hid (∀ w8, Below w7.heap.size w7 w8 → ∀ z0 z1 z2 z3 z4 z5 z6 z7 : Value, (((((((((w8.setCell ⟨b7, 0, none⟩ z0).setCell ⟨b7, 1, none⟩ z1).setCell ⟨b7, 2, none⟩ z2).setCell ⟨b7, 3, none⟩ z3).setCell ⟨b7, 4, none⟩ z4).setCell ⟨b7, 5, none⟩ z5).setCell ⟨b7, 6, none⟩ z6).setCell ⟨b7, 7, none⟩ z7).cell? ⟨b10, 1, none⟩ = some (.int .i64 op.id) ∧ ((((((((w8.setCell ⟨b7, 0, none⟩ z0).setCell ⟨b7, 1, none⟩ z1).setCell ⟨b7, 2, none⟩ z2).setCell ⟨b7, 3, none⟩ z3).setCell ⟨b7, 4, none⟩ z4).setCell ⟨b7, 5, none⟩ z5).setCell ⟨b7, 6, none⟩ z6).setCell ⟨b7, 7, none⟩ z7).cell? ⟨b10, 2, none⟩ = some (.int .i64 op.type) ∧ ((((((((w8.setCell ⟨b7, 0, none⟩ z0).setCell ⟨b7, 1, none⟩ z1).setCell ⟨b7, 2, none⟩ z2).setCell ⟨b7, 3, none⟩ z3).setCell ⟨b7, 4, none⟩ z4).setCell ⟨b7, 5, none⟩ z5).setCell ⟨b7, 6, none⟩ z6).setCell ⟨b7, 7, none⟩ z7).cell? ⟨b10, 3, none⟩ = some (.slice qa op.parts.length qc))) := fun w8 h8 z0 z1 z2 z3 z4 z5 z6 z7 => by
              have hk := blk_on h8 (HA2.out.blk HKO.out HNO.out).1
              have hk2 : Blk (putFS w8 b7 z0 z1 z2 z3 z4 z5 z6 z7) b10 41 _ := (putFS_other HNE.out _ _ _ _ _ _ _ _).trans hk
              obtain ⟨o0, o1, o2, o3, o4, o5, o6, o7, o8, o9⟩ := hk2.ten
              exact ⟨o1, o2, o3⟩
            obtain ⟨x0, x1, x2, x3, x4, x5, x6, x7, -⟩ := (HA2.out.blk HB6.out.1 HB6.out.2.2.2.2.2.1).1.fs
            have hSd : (fun W : World => W.cell? ⟨b10, 1, none⟩ = some (.int .i64 op.id) ∧ W.cell? ⟨b10, 2, none⟩ = some (.int .i64 op.type) ∧ W.cell? ⟨b10, 3, none⟩ = some (.slice qa op.parts.length qc)) w7.drew := HSK.out _ HBD.out
            refine wp_region_held_drew (S := fun W => W.cell? ⟨b10, 1, none⟩ = some (.int .i64 op.id) ∧ W.cell? ⟨b10, 2, none⟩ = some (.int .i64 op.type) ∧ W.cell? ⟨b10, 3, none⟩ = some (.slice qa op.parts.length qc)) (by kernel_rfl) (HSK.out _ HBD.out) (fun hHeld0 => ?_)
            refine wpAnyH_take (i := 1) (v := ?_) rfl (by kernel_rfl) (by kernel_rfl) (by kernel_rfl) (fun _ _ _ h => h) (Or.inl ⟨by rfl, ?_⟩) (by assumption) ?_
            rotate_left 1
            · intro ww hSw; (try dsimp only at hSw); go_simp <;> with_reducible rfl
            try simp only [Act.put]
            refine wpAnyH_take (i := 2) (v := ?_) rfl (by kernel_rfl) (by kernel_rfl) (by kernel_rfl) (fun _ _ _ h => h) (Or.inl ⟨by rfl, ?_⟩) (by assumption) ?_
            rotate_left 1
            · intro ww hSw; (try dsimp only at hSw); go_simp <;> with_reducible rfl
            try simp only [Act.put]
            refine wpAnyH_take (i := 3) (v := ?_) rfl (by kernel_rfl) (by kernel_rfl) (by kernel_rfl) (fun _ _ _ h => h) (Or.inl ⟨by rfl, ?_⟩) (by assumption) ?_
            rotate_left 1
            · intro ww hSw; (try dsimp only at hSw); go_simp <;> with_reducible rfl
            try simp only [Act.put]
            refine wpAnyH_take (i := 4) (v := ?_) rfl (by kernel_rfl) (by kernel_rfl) (by kernel_rfl) (fun _ _ _ h => h) (Or.inl ⟨by rfl, ?_⟩) (by assumption) ?_
            rotate_left 1
            · intro ww hSw; (try dsimp only at hSw); go_simp <;> with_reducible rfl
            try simp only [Act.put]
            refine wpAnyH_take (i := 5) (v := ?_) rfl (by kernel_rfl) (by kernel_rfl) (by kernel_rfl) (fun _ _ _ h => h) (Or.inl ⟨by rfl, ?_⟩) (by assumption) ?_
            rotate_left 1
            · intro ww hSw; (try dsimp only at hSw); go_simp <;> with_reducible rfl
            try simp only [Act.put]
            refine wpAnyH_take (i := 6) (v := ?_) rfl (by kernel_rfl) (by kernel_rfl) (by kernel_rfl) (fun _ _ _ h => h) (Or.inl ⟨by rfl, ?_⟩) (by assumption) ?_
            rotate_left 1
            · intro ww hSw; (try dsimp only at hSw); go_simp <;> with_reducible rfl
            try simp only [Act.put]
            refine wpAnyH_ready (rs := [0, 7]) (by kernel_rfl) (by simp) ?_
            refine AllReadyH.cons rfl (fun K hK => ?_) ?_
            rotate_left 1
            · refine AllReadyH.cons rfl (fun K hK => ?_) AllReadyH.nil
              go_simp
              go_wp2_with (go_at_call 18; refine (HJ2.out _ HBD.out).mono ?_; rintro e wj ⟨rfl, rfl⟩)
              refine hK.out _ _ hSd (fun hHeld => ?_)
              try simp only [Act.put]
              clear hK
              refine wpAnyH_ready (rs := [0]) (by kernel_rfl) (by simp) ?_
              refine AllReadyH.cons rfl (fun K hK => ?_) AllReadyH.nil
              go_simp
              refine hK.out _ _ hSd (fun hHeld => ?_)
              try simp only [Act.put]
              clear hK
              clear hSd
              refine wpAnyH_ready (rs := [8]) (by kernel_rfl) (by simp) ?_
              refine AllReadyH.cons rfl (fun K hK => ?_) AllReadyH.nil
              go_simp
              go_wp2_with (go_at_call 17; refine (HR2.out _ HBD.out).mono ?_; rintro e w8 ⟨v2, rfl, hr8, hb8⟩; obtain ⟨fa2, fc2, da2, dc2, sa2, sc2, ca2, cc2, pa2, pc2, cvs2, rfl, -⟩ := hr8.parts)
              have hb9 : Below w7.heap.size w7 w8 := HBD.out.trans hb8
              refine hK.out _ _ (HSK.out _ hb9) (fun hHeld => ?_)
              try simp only [Act.put]
              clear hK x0 x1 x2 x3 x4 x5 x6 x7
              refine wpAnyH_take (i := 9) (v := ?_) rfl (by kernel_rfl) (by kernel_rfl) (by kernel_rfl) (fun _ _ _ h => h) (Or.inl ⟨by rfl, ?_⟩) (by assumption) ?_
              rotate_left 1
              · intro ww hSw; (try dsimp only at hSw); go_simp <;> with_reducible rfl
              try simp only [Act.put]
              refine wpAnyH_take (i := 10) (v := ?_) rfl (by kernel_rfl) (by kernel_rfl) (by kernel_rfl) (fun _ _ _ h => h) (Or.inl ⟨by rfl, ?_⟩) (by assumption) ?_
              rotate_left 1
              · intro ww hSw; (try dsimp only at hSw); go_simp <;> with_reducible rfl
              try simp only [Act.put]
              refine wpAnyH_take (i := 11) (v := ?_) rfl (by kernel_rfl) (by kernel_rfl) (by kernel_rfl) (fun _ _ _ h => h) (Or.inl ⟨by rfl, ?_⟩) (by assumption) ?_
              rotate_left 1
              · intro ww hSw; (try dsimp only at hSw); go_simp <;> with_reducible rfl
              try simp only [Act.put]
              have hadv8 := HA2.out.trans (Adv.of_below hb9)
              have hB := Both.next (n := 6 * i + 6) HB6.out.1 HB6.out.2.2.2.2.2.1 HB6.out.2.2.2.2.2.2 (HP2.out.below hb9) HI2.out HS2.out (ref_next (w := w6) (w1 := w7) HP2.out HA2.out.keep.size hr8) hadv8
              have HBB := Lib.hid hB
              obtain ⟨x0, x1, x2, x3, x4, x5, x6, x7, y0, y1, y2, y3, y4, y5, y6, y7⟩ := (hadv8.blk HB6.out.1 HB6.out.2.2.2.2.2.1).1.fs
              clear hB hadv8 hr8
              refine wpAnyH_ready (rs := [12]) (by kernel_rfl) (by simp) ?_
              refine AllReadyH.cons rfl (fun K hK => ?_) AllReadyH.nil
              go_simp
              refine hK.out _ _ (HSP.out _ hb9 _ _ _ _ _ _ _ _) (fun hHeld2 => ?_)
              try simp only [Act.put]
              clear hK x0 x1 x2 x3 x4 x5 x6 x7 y0 y1 y2 y3 y4 y5 y6 y7
              refine wpAnyH_take (i := 13) (v := ?_) rfl (by kernel_rfl) (by kernel_rfl) (by kernel_rfl) (fun _ _ _ h => h) (Or.inl ⟨by rfl, ?_⟩) (by assumption) ?_
              rotate_left 1
              · intro ww hSw; (try dsimp only at hSw); go_simp <;> with_reducible rfl
              try simp only [Act.put]
              refine wpAnyH_done (by kernel_rfl) ?_ _
              go_simp
              go_wp2_with fail
              go_meet
              have hB := HBB.out
              unfold putFS at hB
              exact ⟨g, S2, Y1, R2, _, fa2, fc2, da2, dc2, sa2, sc2, ca2, cc2, pa2, pc2, rfl, rfl, rfl, rfl, hB, HBY2.out⟩

            go_simp
            refine hK.out _ _ hSd (fun hHeld => ?_)
            try simp only [Act.put]
            clear hK
            refine wpAnyH_ready (rs := [7]) (by kernel_rfl) (by simp) ?_
            refine AllReadyH.cons rfl (fun K hK => ?_) AllReadyH.nil
            go_simp
            go_wp2_with (go_at_call 18; refine (HJ2.out _ HBD.out).mono ?_; rintro e wj ⟨rfl, rfl⟩)
            refine hK.out _ _ hSd (fun hHeld => ?_)
            try simp only [Act.put]
            clear hK
            clear hSd
            refine wpAnyH_ready (rs := [8]) (by kernel_rfl) (by simp) ?_
            refine AllReadyH.cons rfl (fun K hK => ?_) AllReadyH.nil
            go_simp
            go_wp2_with (go_at_call 17; refine (HR2.out _ HBD.out).mono ?_; rintro e w8 ⟨v2, rfl, hr8, hb8⟩; obtain ⟨fa2, fc2, da2, dc2, sa2, sc2, ca2, cc2, pa2, pc2, cvs2, rfl, -⟩ := hr8.parts)
            have hb9 : Below w7.heap.size w7 w8 := HBD.out.trans hb8
            refine hK.out _ _ (HSK.out _ hb9) (fun hHeld => ?_)
            try simp only [Act.put]
            clear hK x0 x1 x2 x3 x4 x5 x6 x7
            refine wpAnyH_take (i := 9) (v := ?_) rfl (by kernel_rfl) (by kernel_rfl) (by kernel_rfl) (fun _ _ _ h => h) (Or.inl ⟨by rfl, ?_⟩) (by assumption) ?_
            rotate_left 1
            · intro ww hSw; (try dsimp only at hSw); go_simp <;> with_reducible rfl
            try simp only [Act.put]
            refine wpAnyH_take (i := 10) (v := ?_) rfl (by kernel_rfl) (by kernel_rfl) (by kernel_rfl) (fun _ _ _ h => h) (Or.inl ⟨by rfl, ?_⟩) (by assumption) ?_
            rotate_left 1
            · intro ww hSw; (try dsimp only at hSw); go_simp <;> with_reducible rfl
            try simp only [Act.put]
            refine wpAnyH_take (i := 11) (v := ?_) rfl (by kernel_rfl) (by kernel_rfl) (by kernel_rfl) (fun _ _ _ h => h) (Or.inl ⟨by rfl, ?_⟩) (by assumption) ?_
            rotate_left 1
            · intro ww hSw; (try dsimp only at hSw); go_simp <;> with_reducible rfl
            try simp only [Act.put]
            have hadv8 := HA2.out.trans (Adv.of_below hb9)
            have hB := Both.next (n := 6 * i + 6) HB6.out.1 HB6.out.2.2.2.2.2.1 HB6.out.2.2.2.2.2.2 (HP2.out.below hb9) HI2.out HS2.out (ref_next (w := w6) (w1 := w7) HP2.out HA2.out.keep.size hr8) hadv8
            have HBB := Lib.hid hB
            obtain ⟨x0, x1, x2, x3, x4, x5, x6, x7, y0, y1, y2, y3, y4, y5, y6, y7⟩ := (hadv8.blk HB6.out.1 HB6.out.2.2.2.2.2.1).1.fs
            clear hB hadv8 hr8
            refine wpAnyH_ready (rs := [12]) (by kernel_rfl) (by simp) ?_
            refine AllReadyH.cons rfl (fun K hK => ?_) AllReadyH.nil
            go_simp
            refine hK.out _ _ (HSP.out _ hb9 _ _ _ _ _ _ _ _) (fun hHeld2 => ?_)
            try simp only [Act.put]
            clear hK x0 x1 x2 x3 x4 x5 x6 x7 y0 y1 y2 y3 y4 y5 y6 y7
            refine wpAnyH_take (i := 13) (v := ?_) rfl (by kernel_rfl) (by kernel_rfl) (by kernel_rfl) (fun _ _ _ h => h) (Or.inl ⟨by rfl, ?_⟩) (by assumption) ?_
            rotate_left 1
            · intro ww hSw; (try dsimp only at hSw); go_simp <;> with_reducible rfl
            try simp only [Act.put]
            refine wpAnyH_done (by kernel_rfl) ?_ _
            go_simp
            go_wp2_with fail
            go_meet
            have hB := HBB.out
            unfold putFS at hB
            exact ⟨g, S2, Y1, R2, _, fa2, fc2, da2, dc2, sa2, sc2, ca2, cc2, pa2, pc2, rfl, rfl, rfl, rfl, hB, HBY2.out⟩
          · have hB : Both w0 w6 b7 (6 * i + 6) g S A R fa fc da dc sa sc ca cc pa pc := ⟨HB6.out.1, HB6.out.2.1, HB6.out.2.2.1, HB6.out.2.2.2.1.mono (by omega), HB6.out.2.2.2.2⟩
            have HBB := Lib.hid hB
            have e0 : (kd == 0) = false := by simpa using hk0
            have e1 : (kd == 1) = false := by simpa using hk1
            have e2 : (kd == 2) = false := by simpa using hk2
            clear hB hk0 hk1 hk2
            go_wp2_with fail
            go_meet
            exact ⟨g, S, A, R, 0, fa, fc, da, dc, sa, sc, ca, cc, pa, pc, rfl, rfl, rfl, rfl, HBB.out, HBY.out⟩
    · have hor : (¬ (i : Int) < ops.length) ∨ ((i : Int) < ops.length ∧ ¬ (i : Int) < 40) := by omega
      clear hlt
      have hHI : i ≤ 40 := hi40
      have HHI := Lib.hid hHI
      have HRD := Lib.hid (segRead_pf (.slice ia ids.length ic) ids HBO.out.2.2.1 HBO.out.2.2.2.1 HBY.out HL.out.tab (Ints.below HV.out HBO.out.2.2.1.base) (by have := HIL.out; omega))
      have HRR := Lib.hid (fun (W : World) (hW : Below wr.heap.size wr W) => refSegRead_any (P := fun k => ¬ S k ∧ k ≠ b7) _ (.slice ia ids.length ic) R A ids W (HBO.out.2.1.below hW) (HBO.out.2.2.2.2.1.ok HBO.out.2.2.2.1 (by omega)) (HBO.out.2.2.2.2.1.well HBO.out.2.2.2.1) (fun id => sim_read HBO.out.2.2.2.2.1 HBO.out.2.2.2.1 (nameV id)) (fun id => readA_props HBO.out.2.2.2.1 HBY.out (nameV id)) (Ints.below HV.out (HBO.out.2.2.1.below hW).base) (by have := HIL.out; omega))
      clear hi40 hil hHI
      rcases hor with l2 | ⟨l2, l3⟩
      all_goals go_wp2_with fail
      all_goals
        refine HRD.out.mono ?_; rintro e w5 hq
        have hb5 : Below wr.heap.size wr w5 := hq.1
        obtain ⟨x0, x1, x2, x3, x4, x5, x6, x7, -⟩ := (blk_on hb5 HBO.out.1).fs
        have HR5 := Lib.hid (HRR.out w5 hb5)
        have HQ := Lib.hid hq
        have he : (∃ v b c, e = .returned (.tuple #[v, .bool b, .int .i64 c])) := by
          rcases hq.2 with ⟨_, rfl⟩ | ⟨_, ⟨v, es, b, rfl, _⟩ | ⟨_, _, _, _, _, _, rfl⟩⟩
          · exact ⟨_, _, _, rfl⟩
          · exact ⟨_, _, _, rfl⟩
          · exact ⟨_, _, _, rfl⟩
        obtain ⟨v5, b5, c5, rfl⟩ := he
        clear hq HRR HRD
      all_goals go_wp2_with fail
      all_goals
        refine HR5.out.mono ?_; rintro e' w6 hq'
        obtain ⟨v, v', es, b, c, h1, h2, hen, heq, hel, hb5', hb6⟩ := read_agree HQ.out hq'
        subst h2
        injection h1 with h1
        injection h1 with h1
        have h1 := congrArg Array.toList h1
        simp only [List.cons.injEq, and_true, Value.bool.injEq, Value.int.injEq, true_and] at h1
        obtain ⟨rfl, rfl, rfl⟩ := h1
        have HSA := Lib.hid (same_any _ _ v5 v' es w6 (hen.keep hb6) heq (by have := HIL.out; omega))
        have HFI := Lib.hid ((HBO.out.2.2.1.below (hb5'.trans (hb6.mono hb5'.size))).base)
        clear hq' hen heq hel hb5' hb6 HR5 HQ x0 x1 x2 x3 x4 x5 x6 x7 hb5
      all_goals go_wp2_with fail
      all_goals
        refine HSA.out.mono ?_; rintro e w7 ⟨rfl, hb7⟩
        have HFF := Lib.hid (HFI.out.trans (hb7.mono HFI.out.size))
        clear hb7
      all_goals go_wp2_with fail
      all_goals go_ret
      all_goals exact ⟨rfl, HFF.out⟩
end Go.Proofs.YtigbgajelkknbaaGreatDoor
