/- SimfsTwice: a crash of what a crash left. Plain; nothing is walked. SimfsTwice: a crash of what a crash left changes nothing more, whatever is kept: walked. SimfsTwice, lifted to the statement: a crash of what a crash left changes nothing more, whatever is kept. For every script, number and slice of numbers; no condition. -/
import Derived.Test.YtpfbiijcmmkjlaaFsPt
namespace Go.Proofs.Ytpfbiijcmmkjlaa
open Go.RowKit Go.Maps Go.WideMaps
set_option maxRecDepth 100000

theorem numb_at (l : List RN) (i : Nat) : (numb l)[i]? = (l[i]?).map fun x => (x.1, (i : Int)) := by
  unfold numb
  rw [List.getElem?_map, List.getElem?_zipIdx]
  cases l[i]? with
  | none => rfl
  | some x => simp
theorem numb_again (l : List RN) : numb (numb l) = numb l := by
  apply List.ext_getElem?
  intro i
  rw [numb_at, numb_at]
  cases l[i]? with
  | none => rfl
  | some x => rfl
/-- A file that is sure to its end. -/
def Whole_ (x : RN) : Prop := (x.1.size : Int) = x.2
theorem cut_whole {R : RSt} (hr : ∀ x ∈ R.files, 0 ≤ x.2 ∧ x.2 ≤ x.1.size) (tails : List Int) (i : Nat) : Whole_ (cutR R tails i) := by
  have hx : 0 ≤ (fileR R i).2 ∧ (fileR R i).2 ≤ (fileR R i).1.size := by
    unfold fileR
    rw [List.getD_eq_getElem?_getD]
    cases h : R.files[i]? with
    | none => simp
    | some x => exact hr x (List.mem_of_getElem? h)
  unfold Whole_ cutR
  have hc : 0 ≤ cutN (fileR R i) (tails.getD i 0) ∧ cutN (fileR R i) (tails.getD i 0) ≤ (fileR R i).1.size := by
    unfold cutN
    split
    · split
      · omega
      · omega
    · exact hx
  simp only [ByteArray.size_extract]
  omega
theorem cut_again {R : RSt} {x : RN} {i : Nat} (h : fileR R i = x) (hw : Whole_ x) (tails : List Int) : cutR R tails i = x := by
  unfold Whole_ at hw
  unfold cutR
  rw [h]
  have hc : cutN x (tails.getD i 0) = x.2 := by
    unfold cutN
    split
    · split
      · exact hw
      · omega
    · rfl
  rw [hc, ← hw, Int.toNat_natCast]
  have e : x.1.extract 0 x.1.size = x.1 := by simp
  rw [e, hw]
theorem crash_again {R : RSt} (hr : ∀ x ∈ R.files, 0 ≤ x.2 ∧ x.2 ≤ x.1.size) (d : Int) (t : List Int) (d' : Int) (t' : List Int) : crashR (crashR R d t) d' t' = crashR R d t := by
  obtain ⟨L, hL⟩ : ∃ L, L = preR R (doneR R d) := ⟨_, rfl⟩
  have hpre : preR (crashR R d t) (doneR (crashR R d t) d') = numb L := by
    unfold preR
    rw [show (crashR R d t).changes = [] from rfl, List.take_nil, hL]
    rfl
  have hf : (numb L).map (fun x => cutR (crashR R d t) t' x.2.toNat) = L.map fun x => cutR R t x.2.toNat := by
    apply List.ext_getElem?
    intro i
    rw [List.getElem?_map, List.getElem?_map, numb_at]
    cases h : L[i]? with
    | none => rfl
    | some x =>
      simp only [Option.map_some, Option.some.injEq, Int.toNat_natCast]
      refine cut_again ?_ (cut_whole hr t x.2.toNat) t'
      unfold fileR
      rw [show (crashR R d t).files = L.map fun x => cutR R t x.2.toNat by rw [hL]; rfl, List.getD_eq_getElem?_getD, List.getElem?_map, h]; rfl
  show ({ emptyR with room := R.room, left := -1, files := (preR (crashR R d t) (doneR (crashR R d t) d')).map (fun x => cutR (crashR R d t) t' x.2.toNat), dir := numb (preR (crashR R d t) (doneR (crashR R d t) d')), sure := numb (preR (crashR R d t) (doneR (crashR R d t) d')) } : RSt) = _
  rw [hpre, hf, numb_again, hL]
  rfl
/-- What is read of a name. -/
theorem sim_data {A : FsA} {R : RSt} {n : Nat} (hS : Sim A R) (hI : Inv A n) {x : RN} (hx : x ∈ R.dir) : ∃ f, readA A x.1 = (f.data, 0) ∧ R.files[x.2.toNat]? = some (filR f) ∧ f.data.length ≤ 65536 ∧ x.1.size ≤ 20 := by
  have hgd := hS.good R.changes.length x (by rw [← hS.dir]; exact hx)
  have hfm := findR_mem R.dir (hS.now hI).rise hx
  rcases hS.find hI x.1 with ⟨g1, g2⟩ | ⟨b, f, g1, g2, g3, g4, g5, g6⟩
  · have := ((hS.now hI).num x hx).1; omega
  · refine ⟨f, ?_, ?_, (hI.short b f g2).1, (nameB_size hgd).2⟩
    · unfold readA findA
      rw [if_pos hgd, g1]
      simp [noneCode, g2]
    · rw [show x.2.toNat = f.num.toNat by omega]; exact g6
/-- Two file systems that tell the same as one. -/
theorem sim_both {A B : FsA} {R : RSt} {n m : Nat} (hA : Sim A R) (hB : Sim B R) (iA : Inv A n) (iB : Inv B m) : usedA A = usedA B ∧ namesD A.now = R.dir.map nmL ∧ namesD B.now = R.dir.map nmL ∧
    ∀ x ∈ R.dir, ∃ p q : List Int, readA A x.1 = (p, 0) ∧ readA B x.1 = (q, 0) ∧ strOfNums p = strOfNums q ∧ p.length ≤ 65536 ∧ q.length ≤ 65536 ∧ x.1.size ≤ 20 := by
  refine ⟨(hA.used iA).trans (hB.used iB).symm, hA.names iA, hB.names iB, fun x hx => ?_⟩
  obtain ⟨f, e1, e2, e3, e4⟩ := sim_data hA iA hx
  obtain ⟨f', e1', e2', e3', _⟩ := sim_data hB iB hx
  rw [e2] at e2'
  have := congrArg (Option.map Prod.fst) e2'
  unfold filR at this
  exact ⟨f.data, f'.data, e1, e1', by simpa using this, e3, e3', e4⟩
end Go.Proofs.Ytpfbiijcmmkjlaa
namespace Go.Proofs.Ytpfbiijcmmkjlaa
open Go.RowKit Go.Maps Go.WideMaps

set_option maxRecDepth 100000 in
set_option maxHeartbeats 16000000 in
theorem twice_any (v vt : Value) (dirs : Int) (ops : List OpR) (tails : List Int) (w0 : World) (h : OpsAt w0 v ops) (hok : OpsOk ops) (ht : Ints w0 vt tails) (htl : tails.length < 9223372036854775808) :
    Calls Try.prog 4 #[v, .int .i64 dirs, vt] w0 fun e w' => e = .returned (.bool true) ∧ Below w0.heap.size w0 w' := by
  obtain ⟨va, vc, rfl⟩ := h.slice
  obtain ⟨ta, tc, rfl⟩ := ht.slice
  have HOP := Lib.hid h
  have HOK := Lib.hid hok
  have HT := Lib.hid ht
  clear h hok ht
  go_enter Try.func4, Try.ntmps4
  go_wp2_with fail
  refine (awake_any w0).mono ?_; rintro e w1 ⟨rfl, hb1⟩
  have HB1 := Lib.hid hb1
  clear hb1
  by_cases hlong : 200 < tails.length
  · have l1 : (200 : Int) < tails.length := by omega
    go_wp2_with fail
    refine (awake_any w1).mono ?_; rintro e w2 ⟨rfl, hb2⟩
    have HB2 := Lib.hid (HB1.out.trans (hb2.mono HB1.out.size))
    clear hb2
    go_wp2_with fail
    go_ret
    exact ⟨rfl, HB2.out⟩
  have l0 : ¬ (200 : Int) < tails.length := by omega
  have HTL := Lib.hid (show tails.length ≤ 200 by omega)
  clear hlong htl
  go_wp2_with fail
  refine (new_pf 2000 (by omega) (by omega) HB1.out).mono ?_; rintro e w2 ⟨g, S, rfl, hpf, hb2⟩
  have HPF := Lib.hid hpf
  clear hpf hb2
  have hRN : newR 2000 = ({ emptyR with room := 2000, left := -1 }, 0) := by unfold newR; rw [if_neg (by omega), if_neg (by omega)]
  have hNW := refNew_any (fun k => ¬ S k ∧ k ≠ k) 2000 w2
  rw [hRN] at hNW
  have HNW := Lib.hid hNW
  clear hNW hRN
  go_wp2_with fail
  refine HNW.out.mono ?_; rintro e w3 ⟨v3, rfl, hrf, hb3⟩
  obtain ⟨fa, fc, da, dc, sa, sc, ca, cc, pa, pc, cvs, rfl, -⟩ := hrf.parts
  obtain ⟨R0, hR0⟩ : ∃ R0 : RSt, R0 = { emptyR with room := 2000, left := -1 } := ⟨_, rfl⟩
  have hsim := sim_new 2000
  rw [← hR0] at hrf hsim
  go_upto_region 5 with fail
  refine wp_world fun w4 hw4 => ?_
  have hk7 : Blk w4 w3.heap.size 33 [.int .i64 R0.room, .slice fa R0.files.length fc, .slice da R0.dir.length dc, .slice sa R0.sure.length sc, .slice ca R0.changes.length cc, .int .i64 R0.steps, .int .i64 R0.left, .slice pa R0.plan.length pc] := by rw [hw4, hR0]; exact Blk.new w3 33 _
  have hb4 : Below w3.heap.size w3 w4 := by rw [hw4]; exact (Below.refl _ _).alloc (Nat.le_refl _) _
  clear hw4
  have hpf3 := HPF.out.below hb3
  have hbo : Both w0 w4 w3.heap.size 0 g S (newA 2000) R0 fa fc da dc sa sc ca cc pa pc :=
    ⟨hk7, ((hrf.lt.below hb4).mono fun k hk => ⟨hk.1.1, by have := hk.2; omega⟩), hpf3.below hb4, Inv.new 2000 (by omega) (by omega), hsim, fun e => by have := (hpf3.lo _ e).2; omega, hpf3.base.size⟩
  obtain ⟨b7, hb7⟩ : ∃ b7, b7 = w3.heap.size := ⟨_, rfl⟩
  rw [← hb7] at hbo
  try rw [← hb7]
  clear hk7 hb4 hb3 hrf hsim hpf3 hb7 hR0 HPF HNW HB1
  go_wp2_with fail
  go_loopw [7, 11, 12] (fun s7 s11 s12 wr => ∃ (i g : Nat) (S : Nat → Prop) (A : FsA) (R : RSt) (fa : Option Addr) (fc : Nat) (da : Option Addr) (dc : Nat) (sa : Option Addr) (sc : Nat) (ca : Option Addr) (cc : Nat) (pa : Option Addr) (pc : Nat), i ≤ 40 ∧ i ≤ ops.length ∧ s7 = .pointer (some ⟨g, 0, none⟩) ∧ s11 = .bool true ∧ s12 = .int .i64 i ∧ Both w0 wr b7 (3 * i) g S A R fa fc da dc sa sc ca cc pa pc)
    (fun _ _ s12 _ => 40 - (intOf s12).toNat)
  case atStart => exact ⟨0, g, S, _, R0, fa, fc, da, dc, sa, sc, ca, cc, pa, pc, Nat.zero_le _, Nat.zero_le _, rfl, rfl, rfl, hbo⟩
  case round =>
    clear hbo
    obtain ⟨i, g, S, A, R, fa, fc, da, dc, sa, sc, ca, cc, pa, pc, hi60, hil, rfl, rfl, rfl, hbo⟩ := hrel
    have HBO := Lib.hid hbo
    clear hbo
    by_cases hlt : i < ops.length ∧ i < 40
    · have l1 : (i : Int) < ops.length := by omega
      have l2 : (i : Int) < 40 := by omega
      have hoi := List.getElem?_eq_getElem hlt.1
      have hok := HOK.out _ (List.getElem_mem hlt.1)
      generalize ops[i] = op at hoi hok
      rcases HOP.out with ⟨_, h0⟩ | ⟨b, o, cap, hv, hb, hc⟩
      · rw [h0] at hoi; cases hoi
      obtain ⟨dv, lv, hdv, hlv, hcc⟩ := hc i op hoi
      cases hv
      obtain ⟨oa, oc, rfl⟩ := hdv.slice
      obtain ⟨la, lc, rfl⟩ := hlv.slice
      have HCC := Lib.hid (fun (W : World) (hW : Below w0.heap.size w0 W) => hcc W (hW.block b hb))
      have HDV := Lib.hid hdv
      have HLV := Lib.hid hlv
      have HOP1 := Lib.hid hok
      have hbase := HBO.out.2.2.1.base
      obtain ⟨q0, q1, q2, q3, q4, q5⟩ := HCC.out wr hbase
      have HFT := Lib.hid (fits_any op.kind op.num op.name op.dest oa op.data.length oc la op.nums.length lc wr)
      have HFB : Hid (fitsB op.data.length op.nums.length op.name.size op.dest.size = true → OpOk op) := fun e => by
        unfold fitsB at e
        simp only [Bool.and_eq_true, decide_eq_true_eq] at e
        exact ⟨e.1.1, e.1.2, HOP1.out.1, HOP1.out.2.1, HOP1.out.2.2.1, HOP1.out.2.2.2⟩
      generalize fitsB op.data.length op.nums.length op.name.size op.dest.size = F at HFT HFB
      clear hoi hok hc hdv hlv hcc hbase hb
      go_wp2_with fail
      refine HFT.out.mono ?_; rintro e w5 ⟨rfl, hb5⟩
      clear q0 q1 q2 q3 q4 q5
      obtain ⟨hk7, hrf, hpf, hinv, hsim, hnb, hb7⟩ := HBO.out
      have hpf5 := hpf.below hb5
      have hk75 := (show Blk w5 b7 33 [.int .i64 R.room, .slice fa R.files.length fc, .slice da R.dir.length dc, .slice sa R.sure.length sc, .slice ca R.changes.length cc, .int .i64 R.steps, .int .i64 R.left, .slice pa R.plan.length pc] from (hb5.block _ hk7.lt).trans hk7)
      have hrf5 := hrf.below hb5
      cases F with
      | false =>
        have HB5 : Hid (Both w0 w5 b7 (3 * (i + 1)) g S A R fa fc da dc sa sc ca cc pa pc) := ⟨hk75, hrf5, hpf5, hinv.mono (by omega), hsim, hnb, hb7⟩
        clear hk7 hrf hpf hinv hsim hnb hb7 hpf5 hk75 hrf5 hb5
        go_wp2_with fail
        go_roundw
        case rel => exact ⟨i + 1, g, S, A, R, fa, fc, da, dc, sa, sc, ca, cc, pa, pc, by omega, by omega, rfl, rfl, by go_num, HB5.out⟩
        case measure => simp [intOf]; omega
      | true =>
        have HPL := Lib.hid (fun (W : World) (hW : Below w5.heap.size w5 W) => play_any (P := fun k => k ≠ b7) _ (.agg #[.int .i64 op.kind, .int .i64 op.num, .string op.name, .string op.dest, .slice oa op.data.length oc, .slice la op.nums.length lc]) op (hpf5.below hW) hinv (by omega) hsim (hrf5.below hW) (fun k hk => by omega) ⟨_, _, rfl, HDV.out, HLV.out⟩ (HFB.out rfl))
        have HRF5 := Lib.hid hrf5
        have HK75 := Lib.hid hk75
        have HPF5 := Lib.hid hpf5
        have HNB := Lib.hid (show ¬ S b7 ∧ w0.heap.size ≤ b7 from ⟨hnb, hb7⟩)
        clear hk7 hrf hpf hinv hsim hnb hb7 hpf5 hk75 hrf5 hb5
        obtain ⟨x0, x1, x2, x3, x4, x5, x6, x7, -⟩ := HK75.out.fs
        have HBD := Lib.hid (⟨rfl, rfl, rfl, Nat.le_refl _, fun _ _ => rfl⟩ : Below w5.heap.size w5 w5.drew)
        go_upto_region 12 with fail
        obtain ⟨q0, q1, q2, q3, q4, q5⟩ := HCC.out w5 HPF5.out.base
        go_region_with (first | (go_at_call 9; refine (HPL.out _ HBD.out).mono ?_; rintro e w6 ⟨g6, S6, A6, R6, v6, rfl, hpf6, hinv6, hsim6, hrf6, hadv6⟩; obtain ⟨fa6, fc6, da6, dc6, sa6, sc6, ca6, cc6, pa6, pc6, cvs6, rfl, -⟩ := hrf6.parts; have hk76 := hadv6.blk HK75.out.drew HNB.out.1; have HK76 := Lib.hid hk76; have HRF6 := Lib.hid hrf6; have HPF6 := Lib.hid hpf6; have HAD6 := Lib.hid hadv6; clear hk76 x0 x1 x2 x3 x4 x5 x6 x7 q0 q1 q2 q3 q4 q5 hpf6 hrf6 hadv6; obtain ⟨z0, z1, z2, z3, z4, z5, z6, z7, y0, y1, y2, y3, y4, y5, y6, y7⟩ := HK76.out.1.fs))
        all_goals go_wp2_with fail
        all_goals
          have hB := Both.next (n := 3 * i + 3) HK75.out.drew HNB.out.1 HNB.out.2 HPF6.out hinv6 hsim6 HRF6.out HAD6.out
          unfold putFS at hB
          have HB := Lib.hid hB
          clear hB
        all_goals go_roundw
        all_goals first
          | exact ⟨i + 1, g6, S6, A6, R6, fa6, fc6, da6, dc6, sa6, sc6, ca6, cc6, pa6, pc6, by omega, by omega, rfl, rfl, by go_num, by rw [Nat.mul_add]; exact HB.out⟩
          | (simp [intOf]; omega)
    · have hor : (¬ (i : Int) < ops.length) ∨ ((i : Int) < ops.length ∧ ¬ (i : Int) < 40) := by omega
      clear hlt
      obtain ⟨hk7, hrf, hpf, hinv, hsim, hnb, hb7⟩ := HBO.out
      have HCR := Lib.hid (crash_pf dirs (.slice ta tails.length tc) tails hpf hinv (by omega) (HT.out.below hpf.base) (by have := HTL.out; omega))
      have HIN := Lib.hid hinv
      have HSM := Lib.hid hsim
      clear hk7 hrf hpf hinv hsim hnb hb7 HBO
      rcases hor with l1 | ⟨l1, l2⟩
      all_goals go_wp2_with fail
      all_goals
        refine HCR.out.mono ?_; rintro e w6 ⟨g1, S1, bs1, rfl, hbl1, hnd1, hpf1, hS1, hb6⟩
        have HI1 := Lib.hid (HIN.out.crash (tails := tails) hbl1)
        have HM1 := Lib.hid (sim_crash HSM.out HIN.out dirs tails bs1 hbl1 hnd1)
        have HP1 := Lib.hid hpf1
        obtain ⟨X, hX⟩ : ∃ X, X = crashA A dirs tails bs1 := ⟨_, rfl⟩
        rw [← hX] at HI1 HM1 HP1
        clear hbl1 hnd1 hpf1 hS1 hb6 hX HCR
      all_goals go_wp2_with fail
      all_goals
        refine calls_world fun w7 hw7 => ?_
        have hb67 : Below w6.heap.size w6 w7 := by rw [hw7]; exact (Below.refl _ _).alloc (Nat.le_refl _) _
        have hin : Ints w7 (.slice (some ⟨w6.heap.size, 0, none⟩) 3 3) [9, 9, 9] := by
          have hb := Blk.new w6 3 [.int .i64 9, .int .i64 9, .int .i64 9]
          rw [hw7]
          exact .inr ⟨w6.heap.size, 0, 3, rfl, hb.lt, hb.range 0 _ fun j v hv => by rw [Nat.zero_add]; exact hv⟩
        have HP7 := Lib.hid (HP1.out.below hb67)
        refine (crash_pf 99 (.slice (some ⟨w6.heap.size, 0, none⟩) 3 3) [9, 9, 9] HP7.out HI1.out (by omega) hin (by simp)).mono ?_
        rintro e w8 ⟨g2, S2, bs2, rfl, hbl2, hnd2, hpf2, hS2, hb8⟩
        have HP8 := Lib.hid (HP7.out.below hb8)
        have HI2 := Lib.hid (HI1.out.crash (tails := [9, 9, 9]) hbl2)
        have HM2 := Lib.hid (sim_crash HM1.out HI1.out 99 [9, 9, 9] bs2 hbl2 hnd2)
        rw [crash_again (fun x hx => (HSM.out.row x hx).2) dirs tails 99 [9, 9, 9]] at HM2
        have HPB := Lib.hid hpf2
        obtain ⟨Y, hY⟩ : ∃ Y, Y = crashA X 99 [9, 9, 9] bs2 := ⟨_, rfl⟩
        rw [← hY] at HI2 HM2 HPB
        obtain ⟨RX, hRX⟩ : ∃ RX, RX = crashR R dirs tails := ⟨_, rfl⟩
        rw [← hRX] at HM1 HM2
        obtain ⟨hus, hn1, hn2, hda⟩ := sim_both HM1.out HM2.out HI1.out HI2.out
        have hz1 := HI1.out.sizeNow
        have hz2 := HI2.out.sizeNow
        have HUA := Lib.hid (fun (W : World) (hW : Below w8.heap.size w8 W) => used_any g1 S1 X W (HP8.out.below hW).fs HI1.out.okNow HI1.out.short (by omega))
        have HUB := Lib.hid (fun (W : World) (hW : Below w8.heap.size w8 W) => used_any g2 S2 Y W (HPB.out.below hW).fs HI2.out.okNow HI2.out.short (by omega))
        have HLA := Lib.hid (fun (W : World) (hW : Below w8.heap.size w8 W) => list_any g1 S1 X W (HP8.out.below hW).fs (by omega))
        have HLB := Lib.hid (fun (W : World) (hW : Below w8.heap.size w8 W) => list_any g2 S2 Y W (HPB.out.below hW).fs (by omega))
        have HRA := Lib.hid (fun (W : World) (hW : Below w8.heap.size w8 W) (s : ByteArray) (hs : s.size ≤ 9223372036854775807) => read_any g1 S1 X s W (HP8.out.below hW).fs HI1.out.named HI1.out.short hs)
        have HRB := Lib.hid (fun (W : World) (hW : Below w8.heap.size w8 W) (s : ByteArray) (hs : s.size ≤ 9223372036854775807) => read_any g2 S2 Y s W (HPB.out.below hW).fs HI2.out.named HI2.out.short hs)
        rw [← hus] at HUB
        rw [hn1] at HLA
        rw [hn2] at HLB
        have HDA := Lib.hid hda
        have HDL := Lib.hid (show RX.dir.length < 1000 by have := HM1.out.dirlen HI1.out; omega)
        have HB8 : Hid (Below w0.heap.size w0 w8) := HP8.out.base
        clear hw7 hb67 hin HP7 hbl2 hnd2 hpf2 hS2 hb8 hY hRX hus hn1 hn2 hda hz1 hz2 HM1 HM2 HSM HIN HI1 HI2 HP1 HP8 HPB
      all_goals go_wp2_with fail
      all_goals
        refine (HUB.out w8 (Below.refl _ _)).mono ?_; rintro e w9 ⟨rfl, hb9⟩
        have HB9 := Lib.hid hb9
        clear hb9 HUB
      all_goals go_wp2_with fail
      all_goals
        refine (HUA.out w9 HB9.out).mono ?_; rintro e w10 ⟨rfl, hb10⟩
        have HB10 := Lib.hid (HB9.out.trans (hb10.mono HB9.out.size))
        generalize usedA X = u at *
        clear hb10 HUA HB9
      all_goals go_wp2_with fail
      all_goals
        refine (HLA.out w10 HB10.out).mono ?_; rintro e w11 ⟨lv, rfl, hlo, hb11⟩
        obtain ⟨la, lc, rfl, hlc⟩ := listed hlo
        have HLC := Lib.hid hlc
        have HB11 := Lib.hid (HB10.out.trans (hb11.mono HB10.out.size))
        clear hlo hlc hb11 HLA HB10
      all_goals go_wp2_with fail
      all_goals
        refine (HLB.out w11 HB11.out).mono ?_; rintro e w12 ⟨lv, rfl, hlo, hb12⟩
        obtain ⟨lb, ld, rfl, hld⟩ := listed hlo
        have HLD := Lib.hid hld
        have HLC2 : Hid (∀ (W : World), Below w12.heap.size w12 W → ∀ (i : Nat) (x : RN), RX.dir[i]? = some x → ∃ b, la = some ⟨b, 0, none⟩ ∧ W.cell? ⟨b, i, none⟩ = some (.string x.1)) := fun W hW => HLC.out W (hb12.trans (hW.mono hb12.size))
        have HB12 := Lib.hid (HB11.out.trans (hb12.mono HB11.out.size))
        obtain ⟨N, hN⟩ : ∃ N, N = RX.dir.length := ⟨_, rfl⟩
        have HN := Lib.hid hN
        rw [← hN]
        clear hlo hld hb12 HLB HB11 HLC hN
      all_goals go_wp2_with fail
      all_goals
        go_loopw [17, 18, 19, 20, 21, 106] (fun _ _ _ _ _ s106 W => ∃ j : Nat, j ≤ N ∧ s106 = .int .i64 j ∧ Below w12.heap.size w12 W) (fun _ _ _ _ _ s106 _ => N - (intOf s106).toNat)
        case atStart => exact ⟨0, Nat.zero_le _, rfl, Below.refl _ _⟩
        case round =>
          obtain ⟨j, hj, rfl, hbq⟩ := hrel
          have HBQ := Lib.hid hbq
          have hnl : N < 1000 := by rw [HN.out]; exact HDL.out
          clear hbq
          by_cases hjn : j < N
          · have lj : (j : Int) < N := by omega
            have hjd : j < RX.dir.length := by have := HN.out; omega
            obtain ⟨x, hx⟩ : ∃ x, RX.dir[j]? = some x := ⟨_, List.getElem?_eq_getElem hjd⟩
            obtain ⟨pp, qq, e1, e2, e3, e4, e5, e6⟩ := HDA.out x (List.mem_of_getElem? hx)
            obtain ⟨ba, rfl, c1⟩ := HLC2.out wr HBQ.out j x hx
            obtain ⟨bb, rfl, _⟩ := HLD.out wr HBQ.out j x hx
            have HCA : Hid (∀ W, Below w12.heap.size w12 W → W.cell? ⟨ba, j, none⟩ = some (.string x.1)) := fun W hW => by
              obtain ⟨_, h1, h2⟩ := HLC2.out W hW j x hx
              cases h1; exact h2
            have HCB : Hid (∀ W, Below w12.heap.size w12 W → W.cell? ⟨bb, j, none⟩ = some (.string x.1)) := fun W hW => by
              obtain ⟨_, h1, h2⟩ := HLD.out W hW j x hx
              cases h1; exact h2
            have HR1 := Lib.hid (HRA.out wr (HB12.out.trans (HBQ.out.mono HB12.out.size)) x.1 (by omega))
            rw [e1] at HR1
            have HR2 := Lib.hid (fun (W : World) (hW : Below w8.heap.size w8 W) => HRB.out W hW x.1 (by omega))
            rw [e2] at HR2
            have HST := Lib.hid e3
            simp only at HR1 HR2
            obtain ⟨nm, hnm⟩ : ∃ nm, nm = x.1 := ⟨_, rfl⟩
            rw [← hnm] at c1 HCA HCB HR1 HR2
            clear hx e1 e2 e3 e6 hjd hnm
            go_wp2_with fail
            refine HR1.out.mono ?_; rintro e wa ⟨v1, rfl, hc1⟩
            obtain ⟨v1a, v1c, rfl⟩ := own_slice hc1.1
            have HC1 := Lib.hid hc1
            have HBA : Hid (Below w12.heap.size w12 wa) := HBQ.out.trans (hc1.2.mono HBQ.out.size)
            have c2 := HCB.out wa HBA.out
            clear hc1 HR1 c1
            go_wp2_with fail
            refine (HR2.out wa (HB12.out.trans (HBA.out.mono HB12.out.size))).mono ?_; rintro e wb ⟨v2, rfl, hc2⟩
            obtain ⟨v2a, v2c, rfl⟩ := own_slice hc2.1
            have HBB : Hid (Below w12.heap.size w12 wb) := HBA.out.trans (hc2.2.mono HBA.out.size)
            have hb1 : Bytes wb (.slice v1a pp.length v1c) pp := (OwnD.bytes HC1.out.1).below hc2.2
            have hb2 : Bytes wb (.slice v2a qq.length v2c) qq := OwnD.bytes hc2.1
            have hcv1 : ∀ n, (convert 37 9 (.slice v1a pp.length v1c)).run Try.prog (wb.drewN n) = .ok (.string (strOfNums pp)) (wb.drewN n) := fun n => run_string (hb1.below (Below.drewN (Below.refl _ wb) n))
            have hcv2 : ∀ n, (convert 37 9 (.slice v2a qq.length v2c)).run Try.prog (wb.drewN n) = .ok (.string (strOfNums pp)) (wb.drewN n) := fun n => by rw [HST.out]; exact run_string (hb2.below (Below.drewN (Below.refl _ wb) n))
            have d1 := HCA.out wb HBB.out
            have d2 := HCB.out wb HBB.out
            generalize pp.length = p1 at *
            generalize qq.length = p2 at *
            generalize strOfNums pp = T at *
            clear hc2 hb1 hb2 HC1 HR2 c2 HST
            go_upto_region 27 with fail
            go_quiet (fail)
            clear d1 d2 hcv1 hcv2
            go_wp2_with fail
            go_roundw
            case rel => exact ⟨j + 1, by omega, by go_num, Below.drewN HBB.out _⟩
            case measure => simp [intOf]; omega
          · obtain rfl : j = N := by omega
            have HFI : Hid (Below w0.heap.size w0 wr) := (HB8.out.trans (HB12.out.mono HB8.out.size)).trans (HBQ.out.mono (HB8.out.trans (HB12.out.mono HB8.out.size)).size)
            go_wp2_with fail
            go_ret
            exact ⟨rfl, HFI.out⟩
end Go.Proofs.Ytpfbiijcmmkjlaa
namespace Go.Proofs.Ytpfbiijcmmkjlaa
open Go.RowKit Go.WideShapes Go.ChangeShapes Go.ChangeAt
theorem intCells : Try.prog.cellsOf 3 = 1 := by kernel_rfl
section
variable {H : Type} {enc : TypeId × Value → H} {P : Program}
/-- An argument that is a slice of numbers. -/
theorem open_nums {r : Reach} {b0 : Nat} {t e : Nat} {w : World} {base : Nat} {spare : Nat → Bool} {held : Bool} {v : Value} {d : DataW H} {ps : List MemPlace}
    (ht : P.underlying t = some (.slice e)) (he : P.underlying e = some (.int .i64)) (hcE : P.cellsOf e = 1)
    (hval : Value.okWide P w r b0 t v) (hd : DataW.Trod enc P w base spare held t v d ps) : ∃ zs : List Int, Ints w v zs ∧ zs.length < 9223372036854775808 ∧ ∀ z ∈ zs, (Lit.int .i64 z).wf = true := by
  obtain ⟨a0, len, cap, rfl⟩ := okWide_slice ht hval
  obtain ⟨fuel, hf⟩ := hd
  rcases open_ints ht he hcE hf with ⟨hcs, _⟩ | ⟨a, len', cap', zs, hcs, _, hl, hm, hz, hx, hcell, hwz⟩
  · simp [Value.cells] at hcs
    obtain ⟨rfl, rfl, rfl⟩ := hcs
    exact ⟨[], Or.inl ⟨rfl, rfl⟩, by simp, fun z hz => by cases hz⟩
  · simp [Value.cells] at hcs
    obtain ⟨rfl, rfl, rfl⟩ := hcs
    have hok : w.has P r b0 a e cap := by
      unfold Value.okWide Cell.okWide Cell.ok at hval
      rw [ht] at hval
      exact hval.2.2
    obtain ⟨_, hsp, row, cells, hsh, _⟩ := hok
    have hlz : len ≤ zs.length := by rw [hz]; split <;> omega
    have hlen : (zs.take len).length = len := by simp; omega
    obtain ⟨ab, ao, asp⟩ := a
    cases hsp
    refine ⟨zs.take len, Or.inr ⟨ab, ao, cap, by rw [hlen], shape_lt hsh, fun j u hu => ?_⟩, by rw [hlen]; unfold maxLen at hm; omega, fun z hz => hwz z (List.mem_of_mem_take hz)⟩
    rw [List.getElem?_map] at hu
    cases hj : (zs.take len)[j]? with
    | none => rw [hj] at hu; cases hu
    | some x =>
      rw [hj] at hu
      cases hu
      have hjl : j < len := by have := (List.getElem?_eq_some_iff.1 hj).1; omega
      have hc := hcell j (by omega)
      rw [List.getElem?_take_of_lt hjl] at hj
      rw [List.getD_eq_getElem?_getD, hj] at hc
      simpa [Addr.add] using (show w.cell? ⟨ab, ao + j, none⟩ = _ by
        have e : Addr.add ⟨ab, ao, none⟩ j = ⟨ab, ao + j, none⟩ := by unfold Addr.add; by_cases h : j = 0 <;> simp [h]
        rw [← e]; exact hc)
end

set_option maxRecDepth 100000 in
theorem twice_lifted (os : Os) (started : os.Started) (H : Type) (enc : TypeId × Value → H) :
    ReturnsInHanded {} Try.checked os 4 .any (Rows.simfsTwiceSpec.pre6 enc Try.prog Try.f4 Rows.simfsTwiceRow.domain false) (Rows.simfsTwiceSpec.post enc Try.prog Try.f4 false true false false) := by
  refine returnsInHanded_of_change (C := Try.checked) Try.own started (by kernel_rfl) Try.func4
    (ChangeSpec.witness6 (enc := enc) (C := Try.checked) false ⟨#[], #[.slice none 0 0, .int .i64 0, .slice none 0 0], []⟩ 8 (by kernel_rfl) (by kernel_rfl) (by kernel_rfl) (by kernel_rfl)) ?_
  intro W base args ds gs before hval0 hW hcnd _
  have hval : ∀ (j : Nat) t v, Try.f4.params[j]? = some t → args[j]? = some v → Value.okWide Try.prog W .any base t v := hval0
  have hW' := hW
  obtain ⟨p, q, hA0, hV, hbe, hfz, hnd⟩ := hW
  have hA : DataW.TrodAll enc Try.prog W 0 (fun _ => true) true Try.f4.params.toList args.toList ds p := hA0
  rw [Try.params4] at hA hval
  obtain ⟨v0, v1, v2, d0, d1, d2, p0, p1, p2, rfl, rfl, rfl, h0, h1, h2⟩ := trodAll_three hA
  obtain ⟨ops, hb, hq⟩ := open_ops (hval 0 _ v0 rfl rfl) h0
  obtain ⟨n, rfl, _, _, _⟩ := open_int Try.underlying3 (hval 1 _ v1 rfl rfl) h1
  obtain ⟨zs, hz, hzl, _⟩ := open_nums Try.underlying31 Try.underlying3 intCells (hval 2 _ v2 rfl rfl) h2
  clear hA0 hval0 hfz hnd
  refine (twice_any v0 v2 n ops zs W hb.isAt hq hz hzl).mono fun e W' ⟨he, hb⟩ => ?_
  subst he
  obtain rfl : gs = [] := (trodVars_none hV).1
  exact ⟨_, rfl, law_post Try.laidOut hW' rfl (by rw [Try.params4]; decide +kernel) (tb := 4) rfl Try.underlying4 hb rfl⟩

theorem twice_holds : Rows.SimfsTwiceSaid :=
  OpenClaim.holds_of_wide 4 Try.f4 rfl rfl rfl rfl rfl rfl rfl ⟨rfl, rfl, rfl, rfl, rfl⟩ rfl rfl rfl rfl rfl (by kernel_rfl) Try.func4 (by kernel_rfl)
    (of_decide_eq_true (by kernel_rfl)) (by unfold Func.isWrapper; first | (rw [if_pos (by decide +kernel)]; kernel_rfl) | (rw [if_neg (by decide +kernel)]; exact ⟨rfl, rfl⟩))
    (fun os started H enc _ => twice_lifted os started H enc)
end Go.Proofs.Ytpfbiijcmmkjlaa
