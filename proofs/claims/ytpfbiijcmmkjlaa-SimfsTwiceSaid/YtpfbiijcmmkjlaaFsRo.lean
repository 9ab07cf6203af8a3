/- The reference of layer 2 (rubricref02): 'Crash'. -/
import Derived.Test.YtpfbiijcmmkjlaaFsRn
import Derived.Deep.DeepCutAuto
import Derived.Deep.CutBlock
namespace Go.Proofs.Ytpfbiijcmmkjlaa
open Go.RowKit

set_option maxRecDepth 100000 in
set_option maxHeartbeats 8000000 in
theorem refCrash_any {P : Nat → Prop} (v : Value) (R : RSt) (dirs : Int) (tv : Value) (tails : List Int) (w : World) (h : RFs P w v R) (hk : ROk R) (hs1 : R.sure.length < 1000) (hc1 : R.changes.length < 1000) (ht : RPlan w tv tails)
    (hdir : ∀ i, ∀ x ∈ preR R i, 0 ≤ x.2 ∧ x.2 < R.files.length) (hfl : ∀ f ∈ R.files, f.1.size ≤ 1000000 ∧ 0 ≤ f.2 ∧ f.2 ≤ f.1.size) :
    Calls Try.prog 30 #[v, .int .i64 dirs, tv] w fun e w' => ∃ v', e = .returned v' ∧ RFs (fun k => w.heap.size ≤ k) w' v' (crashR R dirs tails) ∧ Below w.heap.size w w' := by
  obtain ⟨fa, fc, da, dc, sa, sc, ca, cc, pa, pc, cvs, rfl, h1, h2, h3, h4, h5, h6, o1, o2, o3, o4, o5⟩ := h.parts
  obtain ⟨ta, tc, rfl⟩ := ht.slice
  have HCR := Lib.hid (show crashR R dirs tails = { emptyR with room := R.room, left := -1, files := (preR R (doneR R dirs)).map (fun d => cutR R tails d.2.toNat), dir := numb (preR R (doneR R dirs)), sure := numb (preR R (doneR R dirs)) } from rfl)
  have HFL := Lib.hid h1
  have HSU := Lib.hid h3
  have HCV := Lib.hid h4
  have HCH := Lib.hid h5
  have HT := Lib.hid ht
  have HFS := Lib.hid hfl
  have HDR := Lib.hid hdir
  have HLN := Lib.hid (fun i => preR_length R hk i)
  have HEA := Lib.hid hk.each
  have HB1 := Lib.hid (show R.sure.length < 1000 ∧ R.changes.length < 1000 ∧ R.files.length < 5000 from ⟨hs1, hc1, hk.files⟩)
  have hm1 : doneR R dirs ≤ R.changes.length := by unfold doneR; omega
  have hm2 : ∀ k : Nat, k < doneR R dirs ↔ (k : Int) < dirs ∧ (k : Int) < R.changes.length := fun k => by unfold doneR; omega
  generalize doneR R dirs = m at HCR hm1 hm2
  have HM1 := Lib.hid hm1
  have HM2 := Lib.hid hm2
  clear h1 h2 h3 h4 h5 h6 h hk o1 o2 o3 o4 o5 ht hdir hfl hs1 hc1 hm1 hm2
  go_enter Try.func30, Try.ntmps30
  go_upto_region 2 with fail
  refine wp_world fun wB hwB => ?_
  have hBB : Below w.heap.size w wB := by rw [hwB]; exact (((Below.refl _ _).alloc (Nat.le_refl _) _).alloc (by simp) _).alloc (by simp; omega) _
  have hK0 : Blk wB w.heap.size 33 [.int .i64 R.room, .slice fa R.files.length fc, .slice da R.dir.length dc, .slice sa R.sure.length sc, .slice ca R.changes.length cc, .int .i64 R.steps, .int .i64 R.left, .slice pa R.plan.length pc] := by rw [hwB]; exact ((Blk.new w 33 [.int .i64 R.room, .slice fa R.files.length fc, .slice da R.dir.length dc, .slice sa R.sure.length sc, .slice ca R.changes.length cc, .int .i64 R.steps, .int .i64 R.left, .slice pa R.plan.length pc]).alloc _).alloc _
  have hK1 : Blk wB (w.heap.size + 1) 33 zeroC := by
    rw [hwB]
    have := (Blk.new (w.alloc (.cells #[.int .i64 R.room, .slice fa R.files.length fc, .slice da R.dir.length dc, .slice sa R.sure.length sc, .slice ca R.changes.length cc, .int .i64 R.steps, .int .i64 R.left, .slice pa R.plan.length pc] 33)) 33 zeroC).alloc (.cells ([.int .i64 R.room, .slice none 0 0, .slice none 0 0, .slice none 0 0, .slice none 0 0, .int .i64 0, .int .i64 (-1), .slice none 0 0] : List Value).toArray 33)
    rw [World.size_alloc] at this
    exact this
  have hKC : Blk wB (w.heap.size + 2) 33 [.int .i64 R.room, .slice none 0 0, .slice none 0 0, .slice none 0 0, .slice none 0 0, .int .i64 0, .int .i64 (-1), .slice none 0 0] := by
    rw [hwB]
    have := Blk.new ((w.alloc (.cells #[.int .i64 R.room, .slice fa R.files.length fc, .slice da R.dir.length dc, .slice sa R.sure.length sc, .slice ca R.changes.length cc, .int .i64 R.steps, .int .i64 R.left, .slice pa R.plan.length pc] 33)).alloc (.cells zeroC.toArray 33)) 33 [.int .i64 R.room, .slice none 0 0, .slice none 0 0, .slice none 0 0, .slice none 0 0, .int .i64 0, .int .i64 (-1), .slice none 0 0]
    rw [World.size_alloc, World.size_alloc] at this
    exact this
  have x3 := hK0.cell (i := 3) rfl
  have HBB := Lib.hid hBB
  have HK0 := Lib.hid hK0
  have HK1 := Lib.hid hK1
  have HKC := Lib.hid hKC
  have hown0 : ∀ j, (Value.slice sa R.sure.length sc).ownBlock = some j → j < w.heap.size ∨ w.heap.size + 3 ≤ j := fun j hj => .inl (HSU.out.block j hj)
  have hsu0 : RNames wB (.slice sa R.sure.length sc) (preR R 0) := by have := HSU.out.below hBB; unfold preR; exact this
  clear hwB hBB hK0 hK1 hKC
  go_upto_region 3 with fail
  clear x3
  go_upto_block 0 with fail
  go_cut [8] (fun s8 wx => ∃ dv : Value, s8 = dv ∧ RNames wx dv (preR R m) ∧ (∀ j, dv.ownBlock = some j → j < w.heap.size ∨ w.heap.size + 3 ≤ j) ∧ Below wB.heap.size wB wx)
  case rest =>
    obtain ⟨dv, rfl, hdv, hown, hbr⟩ := hcut
    obtain ⟨la, lc, rfl⟩ := hdv.slice
    obtain ⟨D, hD⟩ : ∃ D, D = preR R m := ⟨_, rfl⟩
    have hdl : D.length < 4000 := by rw [hD]; have := HLN.out m; have := HB1.out; have := HM1.out; omega
    have hdd : ∀ x ∈ D, 0 ≤ x.2 ∧ x.2 < R.files.length := by rw [hD]; exact HDR.out m
    rw [← hD] at hdv hown HCR
    try rw [← hD]
    clear hD
    have HDL := Lib.hid hdl
    have HDD := Lib.hid hdd
    have hLp0 : Lp w wc.heap.size R.room [.int .i64 R.room, .slice fa R.files.length fc, .slice da R.dir.length dc, .slice sa R.sure.length sc, .slice ca R.changes.length cc, .int .i64 R.steps, .int .i64 R.left, .slice pa R.plan.length pc] (.slice la D.length lc) D wc (.slice none 0 0) (.slice none 0 0) [] [] :=
      ⟨(hbr.block _ HK0.out.lt).trans HK0.out, (hbr.block _ HK1.out.lt).trans HK1.out, (hbr.block _ HKC.out.lt).trans HKC.out, World.ownsRow_nil _ _ _ _, World.ownsRow_nil _ _ _ _, hdv,
        fun j hj => ⟨hdv.block j hj, by have := hown j hj; omega⟩, HBB.out.trans (hbr.mono HBB.out.size), by have := HKC.out.lt; have := hbr.size; omega, Nat.le_refl _⟩
    obtain ⟨B, hB⟩ : ∃ B, B = wc.heap.size := ⟨_, rfl⟩
    rw [← hB] at hLp0
    have hLp := hLp0
    have hB3 := hLp0.b3
    clear hdv hown hbr hdl hdd HK0 HK1 HKC hB hLp0
    go_wp2_with fail
    go_loopw [53] (fun s53 wr => ∃ (i : Nat) (fv dv : Value), i ≤ D.length ∧ s53 = .int .i64 i ∧ Lp w B R.room [.int .i64 R.room, .slice fa R.files.length fc, .slice da R.dir.length dc, .slice sa R.sure.length sc, .slice ca R.changes.length cc, .int .i64 R.steps, .int .i64 R.left, .slice pa R.plan.length pc] (.slice la D.length lc) D wr fv dv ((D.take i).map fun d => cutR R tails d.2.toNat) (numb (D.take i)))
      (fun s53 _ => D.length - (intOf s53).toNat)
    case atStart => exact ⟨0, _, _, Nat.zero_le _, rfl, hLp⟩
    case round =>
      clear hLp
      obtain ⟨i, fv, dv, hi, rfl, hLp⟩ := hrel
      obtain ⟨F, hF⟩ : ∃ F, F = (D.take i).map (fun d => cutR R tails d.2.toNat) := ⟨_, rfl⟩
      obtain ⟨N, hN⟩ : ∃ N, N = numb (D.take i) := ⟨_, rfl⟩
      rw [← hF, ← hN] at hLp
      obtain ⟨fg, fcap, rfl⟩ := hLp.f.slice
      obtain ⟨dg, dcap, rfl⟩ := hLp.d.slice
      have hFl : F.length = i ∧ N.length = i := by rw [hF, hN, numb_length, List.length_map, List.length_take]; omega
      by_cases hit : i < D.length
      · have li : (i : Int) < D.length := by omega
        have hmem := HDD.out D[i] (List.getElem_mem hit)
        have hnt := numb_take D hit
        have htk : (D.take (i + 1)).map (fun d => cutR R tails d.2.toNat) = (D.take i).map (fun d => cutR R tails d.2.toNat) ++ [cutR R tails D[i].2.toNat] := by rw [List.take_succ_eq_append_getElem hit, List.map_append]; rfl
        have hlr := hLp.l
        rcases hlr with ⟨_, h0⟩ | ⟨lb, lo, lcap, hlv, hlb, hlc⟩
        · rw [h0] at hit; simp at hit
        cases hlv
        obtain ⟨e1, e2⟩ := hlc i _ (List.getElem?_eq_getElem hit)
        have hdi := List.getElem?_eq_getElem hit
        generalize D[i] = x at hmem hnt htk e1 e2 hdi
        obtain ⟨xs, xf⟩ := x
        have HDI := Lib.hid hdi
        clear hdi
        simp only at hmem hnt htk e1 e2
        obtain ⟨k, rfl⟩ : ∃ k : Nat, xf = k := ⟨xf.toNat, by omega⟩
        rw [Int.toNat_natCast, ← hF] at htk
        rw [← hN] at hnt
        have hkl : k < R.files.length := by omega
        have lk : (k : Int) < R.files.length := by omega
        have hfg := fileR_get (R := R) hkl
        have hfs := HFS.out _ (List.mem_of_getElem? hfg)
        have hcu : cutR R tails k = ((fileR R k).1.extract 0 (cutN (fileR R k) (tails.getD k 0)).toNat, cutN (fileR R k) (tails.getD k 0)) := rfl
        generalize fileR R k = y at hfg hfs hcu
        obtain ⟨yd, ys⟩ := y
        simp only at hfs hcu
        obtain ⟨sn, rfl⟩ : ∃ sn : Nat, ys = sn := ⟨ys.toNat, by omega⟩
        rcases HFL.out.below hLp.b with ⟨_, h0⟩ | ⟨gb, go, gcap, hgv, hgb, hgc⟩
        · rw [h0] at hkl; simp at hkl
        obtain ⟨e3, e4⟩ := hgc k _ hfg
        simp only at e3 e4
        cases hgv
        have x1 := hLp.k0.cell (i := 1) rfl
        have HLP := Lib.hid hLp
        have HHL := Lib.hid (show lb < wr.heap.size ∧ gb < wr.heap.size from ⟨hlb, hgb⟩)
        have HTK := Lib.hid htk
        have HNT := Lib.hid hnt
        have HCU := Lib.hid hcu
        have HFZ := Lib.hid hfs
        have HFN := Lib.hid hFl
        clear hlb hlc hgb hgc hfg hmem hLp hnt htk hcu hfs hFl hF hN
        go_upto_region 14 with fail
        have HSK : Hid (∀ W, Below wr.heap.size wr W → W.cell? ⟨w.heap.size, 1, none⟩ = some (.slice (some ⟨gb, go, none⟩) R.files.length fc) ∧ W.cell? ⟨lb, lo + i * 2 + 1, none⟩ = some (.int .i64 k) ∧ W.cell? ⟨gb, go + k * 2, none⟩ = some (.string yd) ∧ W.cell? ⟨gb, go + k * 2 + 1, none⟩ = some (.int .i64 sn)) := fun W hW =>
          ⟨by rw [World.cell?_of_block (w := wr) (hW.block _ HLP.out.k0.lt)]; exact x1, by rw [World.cell?_of_block (w := wr) (hW.block _ HHL.out.1)]; exact e2, by rw [World.cell?_of_block (w := wr) (hW.block _ HHL.out.2)]; exact e3, by rw [World.cell?_of_block (w := wr) (hW.block _ HHL.out.2)]; exact e4⟩
        have hBD : Below wr.heap.size wr wr.drew := ⟨rfl, rfl, rfl, Nat.le_refl _, fun _ _ => rfl⟩
        clear x1 e1 e2 e3 e4
        have hSd : (fun W : World => W.cell? ⟨w.heap.size, 1, none⟩ = some (.slice (some ⟨gb, go, none⟩) R.files.length fc) ∧ W.cell? ⟨lb, lo + i * 2 + 1, none⟩ = some (.int .i64 k) ∧ W.cell? ⟨gb, go + k * 2, none⟩ = some (.string yd) ∧ W.cell? ⟨gb, go + k * 2 + 1, none⟩ = some (.int .i64 sn)) wr.drew := HSK.out _ hBD
        refine wp_region_tail_held (fun W => W.cell? ⟨w.heap.size, 1, none⟩ = some (.slice (some ⟨gb, go, none⟩) R.files.length fc) ∧ W.cell? ⟨lb, lo + i * 2 + 1, none⟩ = some (.int .i64 k) ∧ W.cell? ⟨gb, go + k * 2, none⟩ = some (.string yd) ∧ W.cell? ⟨gb, go + k * 2 + 1, none⟩ = some (.int .i64 sn)) 10 (by kernel_rfl) (by kernel_rfl) ?_
        simp only [List.take_succ_cons, List.take_zero]
        refine wpAnyH_take (i := 0) (v := ?_) rfl (by kernel_rfl) (by kernel_rfl) (by kernel_rfl) (fun _ _ _ h => h) (Or.inl ⟨by rfl, ?_⟩) (by assumption) ?_
        rotate_left 1
        · intro ww hSw; (try dsimp only at hSw); go_simp <;> with_reducible rfl
        try simp only [Act.put]
        refine wpAnyH_take (i := 1) (v := ?_) rfl (by kernel_rfl) (by kernel_rfl) (by kernel_rfl) (fun _ _ _ h => h) (Or.inl ⟨by rfl, ?_⟩) (by assumption) ?_
        rotate_left 1
        · intro ww hSw; (try dsimp only at hSw); go_simp <;> with_reducible rfl
        try simp only [Act.put]
        refine wpAnyH_take (i := 2) (v := ?_) rfl (by kernel_rfl) (by kernel_rfl) (by kernel_rfl) (fun _ _ _ h => h) (Or.inl ⟨by rfl, ?_⟩) (by assumption) ?_
        rotate_left 1
        · intro ww hSw; (try dsimp only at hSw); go_simp <;> with_reducible rfl
        try simp only [Act.put]
        refine wpAnyH_take (i := 3) (v := ?_) rfl (by kernel_rfl) (by kernel_rfl) (by kernel_rfl) (fun _ _ _ h => h) (Or.inl ⟨by rfl, ?_⟩) (by assumption) ?_
        rotate_left 1
        · intro ww hSw; (try dsimp only at hSw); go_simp <;> with_reducible rfl
        try simp only [Act.put]
        refine wpAnyH_take (i := 4) (v := ?_) rfl (by kernel_rfl) (by kernel_rfl) (by kernel_rfl) (fun _ _ _ h => h) (Or.inl ⟨by rfl, ?_⟩) (by assumption) ?_
        rotate_left 1
        · intro ww hSw; (try dsimp only at hSw); go_simp <;> with_reducible rfl
        try simp only [Act.put]
        refine wpAnyH_take (i := 5) (v := ?_) rfl (by kernel_rfl) (by kernel_rfl) (by kernel_rfl) (fun _ _ _ h => h) (Or.inl ⟨by rfl, ?_⟩) (by assumption) ?_
        rotate_left 1
        · intro ww hSw; (try dsimp only at hSw); go_simp <;> with_reducible rfl
        try simp only [Act.put]
        refine wpAnyH_take (i := 6) (v := ?_) rfl (by kernel_rfl) (by kernel_rfl) (by kernel_rfl) (fun _ _ _ h => h) (Or.inl ⟨by rfl, ?_⟩) (by assumption) ?_
        rotate_left 1
        · intro ww hSw; (try dsimp only at hSw); go_simp <;> with_reducible rfl
        try simp only [Act.put]
        refine wpAnyH_take (i := 7) (v := ?_) rfl (by kernel_rfl) (by kernel_rfl) (by kernel_rfl) (fun _ _ _ h => h) (Or.inl ⟨by rfl, ?_⟩) (by assumption) ?_
        rotate_left 1
        · intro ww hSw; (try dsimp only at hSw); go_simp <;> with_reducible rfl
        try simp only [Act.put]
        refine wpAnyH_take (i := 8) (v := ?_) rfl (by kernel_rfl) (by kernel_rfl) (by kernel_rfl) (fun _ _ _ h => h) (Or.inl ⟨by rfl, ?_⟩) (by assumption) ?_
        rotate_left 1
        · intro ww hSw; (try dsimp only at hSw); go_simp <;> with_reducible rfl
        try simp only [Act.put]
        refine wpAnyH_ready (rs := [9]) (by kernel_rfl) (by simp) ?_
        refine AllReadyH.cons rfl (fun K hK => ?_) AllReadyH.nil
        go_simp
        refine hK.out _ _ (HSK.out _ (hBD.alloc (Nat.le_refl _) _)) (fun hHeld => ?_)
        try simp only [Act.put, List.setIfInBounds_toArray, List.set_cons_zero, List.set_cons_succ]
        clear hK hHeld hSd
        refine wpAnyH_done (by kernel_rfl) ?_ _
        refine head_done 10 (by kernel_rfl) ?_
        simp only [List.drop_succ_cons, List.drop_zero]

        go_upto_region 15 with fail
        refine wp_world fun w1 hw1 => ?_
        have hb1 : Below wr.heap.size wr w1 := by rw [hw1]; exact ((Below.refl _ _).alloc (Nat.le_refl _) _).drew
        have hx : Blk w1 wr.heap.size 75 [.string yd, .int .i64 sn] := by rw [hw1]; exact (Blk.new wr 75 [.string yd, .int .i64 sn]).drew
        have HL1 := Lib.hid (HLP.out.below hb1)
        have HX := Lib.hid hx
        have HE2 := Lib.hid (HSK.out w1 hb1).2.1
        clear hw1 hb1 HLP HSK hBD
        have xX1 := hx.cell (i := 1) rfl
        clear hx
        go_upto_region 16 with fail
        clear xX1
        obtain ⟨t, hteq⟩ : ∃ t, t = tails.getD k 0 := ⟨_, rfl⟩
        rw [← hteq] at HCU
        have HTE := Lib.hid hteq
        have HTB := Lib.hid (fun W (hW : Below w.heap.size w W) => show (tails.length ≤ k ∧ t = 0) ∨ ∃ tb tp, ta = some ⟨tb, tp, none⟩ ∧ k < tails.length ∧ W.cell? ⟨tb, tp + k, none⟩ = some (.int .i64 t) by
          by_cases hkt : k < tails.length
          · rcases HT.out with ⟨_, h0⟩ | ⟨_, _, h0⟩ | ⟨tb, tp, cap, hv, _, htb, htr⟩
            · rw [h0] at hkt; simp at hkt
            · rw [h0] at hkt; simp at hkt
            · refine .inr ⟨tb, tp, ?_, hkt, ?_⟩
              · injection hv
              · rw [World.cell?_of_block (w := w) (hW.block tb htb)]
                refine htr k _ ?_
                rw [hteq, List.getElem?_map, List.getD_eq_getElem?_getD, List.getElem?_eq_getElem hkt]; rfl
          · exact .inl ⟨by omega, by rw [hteq, List.getD_eq_getElem?_getD, List.getElem?_eq_none (by omega)]; rfl⟩)
        clear hteq
        obtain ⟨bb, hbb⟩ : ∃ bb : Bool, bb = decide (0 < t) := ⟨_, rfl⟩
        have HBO := Lib.hid hbb
        clear hbb
        go_cut [85] (fun s85 wx => s85 = .bool bb ∧ w1 = wx)
        case first =>
          have e2 := HE2.out
          rcases HTB.out w1 HL1.out.b with ⟨hkt, ht0⟩ | ⟨tb, tp, hta, hkt, ct⟩
          · have lkt : ¬ (k : Int) < tails.length := by omega
            go_wp2_with fail
            go_meet
            exact ⟨by rw [HBO.out, ht0]; rfl, rfl⟩
          · subst hta
            have lkt : (k : Int) < tails.length := by omega
            by_cases hpos : 0 < t
            · go_wp2_with fail
              go_meet
              exact ⟨by rw [HBO.out, decide_eq_true (by omega)], rfl⟩
            · go_wp2_with fail
              go_meet
              exact ⟨by rw [HBO.out, decide_eq_false (by omega)], rfl⟩
        case rest =>
          obtain ⟨rfl, hwc⟩ := hcut
          subst hwc
          obtain ⟨nn, hnn⟩ : ∃ nn : Nat, cutN (yd, (sn : Int)) t = nn := ⟨(cutN (yd, (sn : Int)) t).toNat, by have := HFZ.out; unfold cutN; simp only; split <;> (try split) <;> omega⟩
          have hnle : nn ≤ yd.size := by have := HFZ.out; unfold cutN at hnn; simp only at hnn; split at hnn <;> (try split at hnn) <;> omega
          rw [hnn, Int.toNat_natCast] at HCU
          have HNN := Lib.hid hnn
          have HNL := Lib.hid hnle
          clear hnn hnle
          go_upto_if 85 with fail
          go_cut [13] (fun s13 wx => s13 = .int .i64 nn ∧ Below w1.heap.size w1 wx)
          case first =>
            cases bb with
            | true =>
              have hpos : 0 < t := of_decide_eq_true HBO.out.symm
              rcases HTB.out w1 HL1.out.b with ⟨_, ht0⟩ | ⟨tb, tp, hta, hkt, ct⟩
              · omega
              subst hta
              have lkt : (k : Int) < tails.length := by omega
              have e2 := HE2.out
              have xX0 := HX.out.cell (i := 0) rfl
              have xX1 := HX.out.cell (i := 1) rfl
              have hz : yd.size ≤ 1000000 ∧ 0 ≤ (sn : Int) ∧ (sn : Int) ≤ yd.size := HFZ.out
              have hsub : wrap64 ((yd.size : Int) - sn) = (yd.size : Int) - sn := by unfold wrap64; omega
              have hcn : cutN (yd, (sn : Int)) t = if (yd.size : Int) - sn < t then (yd.size : Int) else sn + t := if_pos hpos
              rw [HNN.out] at hcn
              go_upto_region 17 with fail
              go_quiet (fail)
              have hbq := Below.drewN (Below.refl w1.heap.size w1) nq
              have HBQ := Lib.hid hbq
              have HHC := Lib.hid hcn
              clear hbq hcn
              by_cases hbig : (yd.size : Int) - sn < t
              · have hcn := HHC.out
                rw [if_pos hbig] at hcn
                have HHC2 := Lib.hid hcn
                clear hcn HHC
                go_wp2_with fail
                go_meet
                exact ⟨by rw [HHC2.out], HBQ.out⟩
              · have hcn := HHC.out
                rw [if_neg hbig] at hcn
                have hadd : wrap64 ((sn : Int) + t) = (sn : Int) + t := by unfold wrap64; omega
                have HHC2 := Lib.hid hcn
                clear hcn HHC
                go_wp2_with fail
                go_meet
                exact ⟨by rw [HHC2.out], HBQ.out⟩
            | false =>
              have hpos : ¬ 0 < t := of_decide_eq_false HBO.out.symm
              have hcn : cutN (yd, (sn : Int)) t = sn := if_neg hpos
              rw [HNN.out] at hcn
              have HHC2 := Lib.hid hcn
              clear hcn
              go_wp2_with fail
              go_meet
              exact ⟨by rw [HHC2.out], Below.refl _ _⟩
          case rest =>
            obtain ⟨rfl, hbx⟩ := hcut
            have HL2 := Lib.hid (HL1.out.below hbx)
            have HX2 := Lib.hid (show Blk wc wr.heap.size 75 [.string yd, .int .i64 sn] from (hbx.block _ HX.out.lt).trans HX.out)
            clear hbx HL1 HX HE2 HTB HTE
            go_upto_region 20 with fail
            have lp : nn ≤ yd.size := HNL.out
            have hBD : Below wc.heap.size wc wc.drew := ⟨rfl, rfl, rfl, Nat.le_refl _, fun _ _ => rfl⟩
            have HSK : Hid (∀ W, Below wc.heap.size wc W → W.cell? ⟨w.heap.size + 2, 1, none⟩ = some (.slice fg F.length fcap) ∧ W.cell? ⟨wr.heap.size, 0, none⟩ = some (.string yd)) := fun W hW =>
              ⟨(show Blk W (w.heap.size + 2) 33 _ from (hW.block _ HL2.out.kc.lt).trans HL2.out.kc).cell rfl, (show Blk W wr.heap.size 75 _ from (hW.block _ HX2.out.lt).trans HX2.out).cell rfl⟩
            have hSd : (fun W : World => W.cell? ⟨w.heap.size + 2, 1, none⟩ = some (.slice fg F.length fcap) ∧ W.cell? ⟨wr.heap.size, 0, none⟩ = some (.string yd)) wc.drew := HSK.out _ hBD
            refine wp_region_tail_held (fun W => W.cell? ⟨w.heap.size + 2, 1, none⟩ = some (.slice fg F.length fcap) ∧ W.cell? ⟨wr.heap.size, 0, none⟩ = some (.string yd)) 9 (by kernel_rfl) (by kernel_rfl) ?_
            simp only [List.take_succ_cons, List.take_zero]
            refine wpAnyH_take (i := 0) (v := ?_) rfl (by kernel_rfl) (by kernel_rfl) (by kernel_rfl) (fun _ _ _ h => h) (Or.inl ⟨by rfl, ?_⟩) (by assumption) ?_
            rotate_left 1
            · intro ww hSw; (try dsimp only at hSw); go_simp <;> with_reducible rfl
            try simp only [Act.put]
            refine wpAnyH_take (i := 1) (v := ?_) rfl (by kernel_rfl) (by kernel_rfl) (by kernel_rfl) (fun _ _ _ h => h) (Or.inl ⟨by rfl, ?_⟩) (by assumption) ?_
            rotate_left 1
            · intro ww hSw; (try dsimp only at hSw); go_simp <;> with_reducible rfl
            try simp only [Act.put]
            refine wpAnyH_take (i := 2) (v := ?_) rfl (by kernel_rfl) (by kernel_rfl) (by kernel_rfl) (fun _ _ _ h => h) (Or.inl ⟨by rfl, ?_⟩) (by assumption) ?_
            rotate_left 1
            · intro ww hSw; (try dsimp only at hSw); go_simp <;> with_reducible rfl
            try simp only [Act.put]
            refine wpAnyH_take (i := 3) (v := ?_) rfl (by kernel_rfl) (by kernel_rfl) (by kernel_rfl) (fun _ _ _ h => h) (Or.inl ⟨by rfl, ?_⟩) (by assumption) ?_
            rotate_left 1
            · intro ww hSw; (try dsimp only at hSw); go_simp <;> with_reducible rfl
            try simp only [Act.put]
            refine wpAnyH_take (i := 4) (v := ?_) rfl (by kernel_rfl) (by kernel_rfl) (by kernel_rfl) (fun _ _ _ h => h) (Or.inl ⟨by rfl, ?_⟩) (by assumption) ?_
            rotate_left 1
            · intro ww hSw; (try dsimp only at hSw); go_simp <;> with_reducible rfl
            try simp only [Act.put]
            refine wpAnyH_take (i := 5) (v := ?_) rfl (by kernel_rfl) (by kernel_rfl) (by kernel_rfl) (fun _ _ _ h => h) (Or.inl ⟨by rfl, ?_⟩) (by assumption) ?_
            rotate_left 1
            · intro ww hSw; (try dsimp only at hSw); go_simp <;> with_reducible rfl
            try simp only [Act.put]
            refine wpAnyH_take (i := 6) (v := ?_) rfl (by kernel_rfl) (by kernel_rfl) (by kernel_rfl) (fun _ _ _ h => h) (Or.inl ⟨by rfl, ?_⟩) (by assumption) ?_
            rotate_left 1
            · intro ww hSw; (try dsimp only at hSw); go_simp <;> with_reducible rfl
            try simp only [Act.put]
            refine wpAnyH_take (i := 7) (v := ?_) rfl (by kernel_rfl) (by kernel_rfl) (by kernel_rfl) (fun _ _ _ h => h) (Or.inl ⟨by rfl, ?_⟩) (by assumption) ?_
            rotate_left 1
            · intro ww hSw; (try dsimp only at hSw); go_simp <;> with_reducible rfl
            try simp only [Act.put]
            refine wpAnyH_ready (rs := [8]) (by kernel_rfl) (by simp) ?_
            refine AllReadyH.cons rfl (fun K hK => ?_) AllReadyH.nil
            go_simp
            refine hK.out _ _ (HSK.out _ (hBD.alloc (Nat.le_refl _) _)) (fun hHeld => ?_)
            try simp only [Act.put, List.setIfInBounds_toArray, List.set_cons_zero, List.set_cons_succ]
            clear hK hHeld hSd
            refine wpAnyH_done (by kernel_rfl) ?_ _
            refine head_done 9 (by kernel_rfl) ?_
            simp only [List.drop_succ_cons, List.drop_zero]

            obtain ⟨wd, hwd⟩ : ∃ x, x = (wc.alloc (.cells #[.string (yd.extract 0 nn), .int .i64 nn] 75)).drew := ⟨_, rfl⟩
            rw [← hwd]
            have hbd : Below wc.heap.size wc wd := by rw [hwd]; exact ((Below.refl _ _).alloc (Nat.le_refl _) _).drew
            have hkn : Blk wd wc.heap.size 75 [.string (yd.extract 0 nn), .int .i64 nn] := by rw [hwd]; exact (Blk.new wc 75 [.string (yd.extract 0 nn), .int .i64 nn]).drew
            have HL3 := Lib.hid (HL2.out.below hbd)
            have HN3 : Hid (RNames wd (.slice (some ⟨wc.heap.size, 0, none⟩) 1 1) [(yd.extract 0 nn, (nn : Int))]) :=
              .inr ⟨wc.heap.size, 0, 1, rfl, hkn.lt, fun j n hj => by
                match j with
                | 0 => cases hj; exact ⟨hkn.cell rfl, hkn.cell rfl⟩
                | j + 1 => cases hj⟩
            clear hwd hbd hkn HL2 HX2 HSK hBD lp
            go_wp2_with (with_reducible refine wpList_append_rf rfl (.tmp 115) (.tmp 122) rfl B (.slice fg F.length fcap) (.slice (some ⟨wc.heap.size, 0, none⟩) 1 1) F [(yd.extract 0 nn, (nn : Int))] ?_ HL3.out.f ?_ HN3.out ?_ ?_ ?_ ?_)
            case refine_1 => rfl
            case refine_2 => rfl
            case refine_3 => exact Below.refl _ _
            case refine_4 => have := HFN.out; have := HDL.out; simp; omega
            case refine_5 => exact HL3.out.sz
            intro v3 w3 ho3 hg3
            rw [← HCU.out, ← HTK.out] at ho3
            obtain ⟨F2, hF2⟩ : ∃ F2, F2 = (D.take (i + 1)).map (fun d => cutR R tails d.2.toNat) := ⟨_, rfl⟩
            rw [← hF2] at ho3
            obtain ⟨g3, q3, rfl⟩ := OwnRF.slice ho3
            have nf : (Value.slice fg F.length fcap).ownBlock ≠ some (w.heap.size + 2) := fun e => by obtain ⟨_, _, hb⟩ := own_tag HL3.out.f e; omega
            have kc3 := (show Blk w3 (w.heap.size + 2) 33 _ from (hg3.block _ HL3.out.kc.lt (fun e => nf e.symm)).trans HL3.out.kc)
            have f1 := kc3.frozen 1
            have d1 := kc3.cell (i := 1) rfl
            have HL4 := Lib.hid (HL3.out.fileStored hg3 ho3)
            have HF2 := Lib.hid hF2
            clear nf kc3 hg3 ho3 HL3 HN3 hF2
            go_upto_region 21 with fail
            refine wp_world fun w4 hw4 => ?_
            have hL4 : Lp w B R.room [.int .i64 R.room, .slice (some ⟨gb, go, none⟩) R.files.length fc, .slice da R.dir.length dc, .slice sa R.sure.length sc, .slice ca R.changes.length cc, .int .i64 R.steps, .int .i64 R.left, .slice pa R.plan.length pc] (.slice (some ⟨lb, lo, none⟩) D.length lc) D w4 (.slice g3 F2.length q3) (.slice dg N.length dcap) F2 N := by rw [hw4]; exact HL4.out
            clear hw4 HL4 f1 d1
            have e5 : w4.cell? ⟨lb, lo + i * 2, none⟩ = some (.string xs) ∧ lb < w4.heap.size := by
              rcases hL4.l with ⟨h0, _⟩ | ⟨b9, o9, c9, h9, hb9, hc9⟩
              · cases h0
              · cases h9; exact ⟨(hc9 i _ HDI.out).1, hb9⟩
            have hBD : Below w4.heap.size w4 w4.drew := ⟨rfl, rfl, rfl, Nat.le_refl _, fun _ _ => rfl⟩
            have HL4 := Lib.hid hL4
            have HSK : Hid (∀ W, Below w4.heap.size w4 W → W.cell? ⟨w.heap.size + 2, 2, none⟩ = some (.slice dg N.length dcap) ∧ W.cell? ⟨lb, lo + i * 2, none⟩ = some (.string xs)) := fun W hW =>
              ⟨(show Blk W (w.heap.size + 2) 33 _ from (hW.block _ HL4.out.kc.lt).trans HL4.out.kc).cell rfl, by rw [World.cell?_of_block (w := w4) (hW.block _ e5.2)]; exact e5.1⟩
            clear hL4 e5
            have hSd : (fun W : World => W.cell? ⟨w.heap.size + 2, 2, none⟩ = some (.slice dg N.length dcap) ∧ W.cell? ⟨lb, lo + i * 2, none⟩ = some (.string xs)) w4.drew := HSK.out _ hBD
            refine wp_region_tail_held (fun W => W.cell? ⟨w.heap.size + 2, 2, none⟩ = some (.slice dg N.length dcap) ∧ W.cell? ⟨lb, lo + i * 2, none⟩ = some (.string xs)) 10 (by kernel_rfl) (by kernel_rfl) ?_
            simp only [List.take_succ_cons, List.take_zero]
            refine wpAnyH_take (i := 0) (v := ?_) rfl (by kernel_rfl) (by kernel_rfl) (by kernel_rfl) (fun _ _ _ h => h) (Or.inl ⟨by rfl, ?_⟩) (by assumption) ?_
            rotate_left 1
            · intro ww hSw; (try dsimp only at hSw); go_simp <;> with_reducible rfl
            try simp only [Act.put]
            refine wpAnyH_take (i := 1) (v := ?_) rfl (by kernel_rfl) (by kernel_rfl) (by kernel_rfl) (fun _ _ _ h => h) (Or.inl ⟨by rfl, ?_⟩) (by assumption) ?_
            rotate_left 1
            · intro ww hSw; (try dsimp only at hSw); go_simp <;> with_reducible rfl
            try simp only [Act.put]
            refine wpAnyH_take (i := 2) (v := ?_) rfl (by kernel_rfl) (by kernel_rfl) (by kernel_rfl) (fun _ _ _ h => h) (Or.inl ⟨by rfl, ?_⟩) (by assumption) ?_
            rotate_left 1
            · intro ww hSw; (try dsimp only at hSw); go_simp <;> with_reducible rfl
            try simp only [Act.put]
            refine wpAnyH_take (i := 3) (v := ?_) rfl (by kernel_rfl) (by kernel_rfl) (by kernel_rfl) (fun _ _ _ h => h) (Or.inl ⟨by rfl, ?_⟩) (by assumption) ?_
            rotate_left 1
            · intro ww hSw; (try dsimp only at hSw); go_simp <;> with_reducible rfl
            try simp only [Act.put]
            refine wpAnyH_take (i := 4) (v := ?_) rfl (by kernel_rfl) (by kernel_rfl) (by kernel_rfl) (fun _ _ _ h => h) (Or.inl ⟨by rfl, ?_⟩) (by assumption) ?_
            rotate_left 1
            · intro ww hSw; (try dsimp only at hSw); go_simp <;> with_reducible rfl
            try simp only [Act.put]
            refine wpAnyH_take (i := 5) (v := ?_) rfl (by kernel_rfl) (by kernel_rfl) (by kernel_rfl) (fun _ _ _ h => h) (Or.inl ⟨by rfl, ?_⟩) (by assumption) ?_
            rotate_left 1
            · intro ww hSw; (try dsimp only at hSw); go_simp <;> with_reducible rfl
            try simp only [Act.put]
            refine wpAnyH_take (i := 6) (v := ?_) rfl (by kernel_rfl) (by kernel_rfl) (by kernel_rfl) (fun _ _ _ h => h) (Or.inl ⟨by rfl, ?_⟩) (by assumption) ?_
            rotate_left 1
            · intro ww hSw; (try dsimp only at hSw); go_simp <;> with_reducible rfl
            try simp only [Act.put]
            refine wpAnyH_take (i := 7) (v := ?_) rfl (by kernel_rfl) (by kernel_rfl) (by kernel_rfl) (fun _ _ _ h => h) (Or.inl ⟨by rfl, ?_⟩) (by assumption) ?_
            rotate_left 1
            · intro ww hSw; (try dsimp only at hSw); go_simp <;> with_reducible rfl
            try simp only [Act.put]
            refine wpAnyH_take (i := 8) (v := ?_) rfl (by kernel_rfl) (by kernel_rfl) (by kernel_rfl) (fun _ _ _ h => h) (Or.inl ⟨by rfl, ?_⟩) (by assumption) ?_
            rotate_left 1
            · intro ww hSw; (try dsimp only at hSw); go_simp <;> with_reducible rfl
            try simp only [Act.put]
            refine wpAnyH_ready (rs := [9]) (by kernel_rfl) (by simp) ?_
            refine AllReadyH.cons rfl (fun K hK => ?_) AllReadyH.nil
            go_simp
            refine hK.out _ _ (HSK.out _ (hBD.alloc (Nat.le_refl _) _)) (fun hHeld => ?_)
            try simp only [Act.put, List.setIfInBounds_toArray, List.set_cons_zero, List.set_cons_succ]
            clear hK hHeld hSd
            refine wpAnyH_done (by kernel_rfl) ?_ _
            refine head_done 10 (by kernel_rfl) ?_
            simp only [List.drop_succ_cons, List.drop_zero]

            obtain ⟨wf, hwf⟩ : ∃ x, x = (w4.alloc (.cells #[.string xs, .int .i64 i] 73)).drew := ⟨_, rfl⟩
            rw [← hwf]
            have hbf : Below w4.heap.size w4 wf := by rw [hwf]; exact ((Below.refl _ _).alloc (Nat.le_refl _) _).drew
            have hkn : Blk wf w4.heap.size 73 [.string xs, .int .i64 i] := by rw [hwf]; exact (Blk.new w4 73 [.string xs, .int .i64 i]).drew
            have HL5 := Lib.hid (HL4.out.below hbf)
            have HN5 : Hid (RNames wf (.slice (some ⟨w4.heap.size, 0, none⟩) 1 1) [(xs, (i : Int))]) :=
              .inr ⟨w4.heap.size, 0, 1, rfl, hkn.lt, fun j n hj => by
                match j with
                | 0 => cases hj; exact ⟨hkn.cell rfl, hkn.cell rfl⟩
                | j + 1 => cases hj⟩
            clear hwf hbf hkn HL4 HSK hBD
            go_wp2_with (with_reducible refine wpList_append_rn rfl (.tmp 126) (.tmp 134) rfl B (.slice dg N.length dcap) (.slice (some ⟨w4.heap.size, 0, none⟩) 1 1) N [(xs, (i : Int))] ?_ HL5.out.d ?_ HN5.out ?_ ?_ ?_ ?_)
            case refine_1 => rfl
            case refine_2 => rfl
            case refine_3 => exact Below.refl _ _
            case refine_4 => have := HFN.out; have := HDL.out; simp; omega
            case refine_5 => exact HL5.out.sz
            intro v5 w5 ho5 hg5
            rw [← HNT.out] at ho5
            obtain ⟨N2, hN2⟩ : ∃ N2, N2 = numb (D.take (i + 1)) := ⟨_, rfl⟩
            rw [← hN2] at ho5
            obtain ⟨g5, q5, rfl⟩ := OwnRN.slice ho5
            have nf : (Value.slice dg N.length dcap).ownBlock ≠ some (w.heap.size + 2) := fun e => by obtain ⟨_, _, hb⟩ := own_tag HL5.out.d e; omega
            have kc5 := (show Blk w5 (w.heap.size + 2) 33 _ from (hg5.block _ HL5.out.kc.lt (fun e => nf e.symm)).trans HL5.out.kc)
            have f2 := kc5.frozen 2
            have d2 := kc5.cell (i := 2) rfl
            have HL6 := Lib.hid (HL5.out.nameStored hg5 ho5)
            have HN2 := Lib.hid hN2
            have hb9 := HDL.out
            clear nf kc5 hg5 ho5 HL5 HN5 hN2
            go_wp2_with fail
            go_roundw
            case rel => exact ⟨i + 1, _, _, by omega, by go_num, by rw [← HF2.out, ← HN2.out]; exact HL6.out⟩
            case measure => simp [intOf]; omega
      · have li : ¬ ((i : Int) < D.length) := by omega
        clear hFl
        rw [List.take_of_length_le (show D.length ≤ i by omega)] at hF hN
        have k2 := hLp.kc.cell (i := 2) rfl
        have k3 := hLp.kc.cell (i := 3) rfl
        have f3 := hLp.kc.frozen 3
        have HLP := Lib.hid hLp
        have HFF := Lib.hid hF
        have HNN := Lib.hid hN
        clear hLp hF hN
        go_upto_region 24 with fail
        refine wp_world fun w7 hw7 => ?_
        have hkc : Blk w7 (w.heap.size + 2) 33 [.int .i64 R.room, .slice fg F.length fcap, .slice dg N.length dcap, .slice dg N.length dcap, .slice none 0 0, .int .i64 0, .int .i64 (-1), .slice none 0 0] := by rw [hw7]; exact HLP.out.kc.set 3 _
        have hk1 : Blk w7 (w.heap.size + 1) 33 zeroC := by rw [hw7]; exact HLP.out.k1.set_other (a := ⟨w.heap.size + 2, 3, none⟩) (show w.heap.size + 1 ≠ w.heap.size + 2 by omega) _
        have hb7 : Below w.heap.size w w7 := by rw [hw7]; exact HLP.out.b.setCell (p := ⟨w.heap.size + 2, 3, none⟩) (show w.heap.size ≤ w.heap.size + 2 by omega) _
        have hf7 : RNames w7 (.slice fg F.length fcap) F := by
          rw [hw7]; refine (OwnRF.names HLP.out.f).to fun k hk => heap_setCell_other _ _ k _ ?_
          obtain ⟨_, _, hb⟩ := own_tag HLP.out.f hk
          show k ≠ w.heap.size + 2; omega
        have hd7 : RNames w7 (.slice dg N.length dcap) N := by
          rw [hw7]; refine (OwnRN.names HLP.out.d).to fun k hk => heap_setCell_other _ _ k _ ?_
          obtain ⟨_, _, hb⟩ := own_tag HLP.out.d hk
          show k ≠ w.heap.size + 2; omega
        have HOW : Hid (∀ k, (Value.slice fg F.length fcap).ownBlock = some k ∨ (Value.slice dg N.length dcap).ownBlock = some k → w.heap.size + 3 ≤ k) := fun k hk => by
          rcases hk with hk | hk
          · obtain ⟨_, _, hb⟩ := own_tag HLP.out.f hk; omega
          · obtain ⟨_, _, hb⟩ := own_tag HLP.out.d hk; omega
        clear hw7 k2 k3 f3 HLP
        have HF7 := Lib.hid hf7
        have HD7 := Lib.hid hd7
        have HB7 := Lib.hid hb7
        have HK1 := Lib.hid hk1
        obtain ⟨x0, x1, x2, x3, x4, x5, x6, x7, y0, y1, y2, y3, y4, y5, y6, y7⟩ := hkc.fs
        obtain ⟨p0, p1, p2, p3, p4, p5, p6, p7, z0, z1, z2, z3, z4, z5, z6, z7⟩ := (show Blk _ (w.heap.size + 1) 33 [.int .i64 0, .slice none 0 0, .slice none 0 0, .slice none 0 0, .slice none 0 0, .int .i64 0, .int .i64 0, .slice none 0 0] from hk1).fs
        clear hf7 hd7 hb7 hk1 hkc
        go_wp2_with fail
        have hkF := putFS_blk HK1.out (.int .i64 R.room) (.slice fg F.length fcap) (.slice dg N.length dcap) (.slice dg N.length dcap) (.slice none 0 0) (.int .i64 0) (.int .i64 (-1)) (.slice none 0 0)
        obtain ⟨d0, d1, d2, d3, d4, d5, d6, d7, -⟩ := hkF.fs
        unfold putFS at d0 d1 d2 d3 d4 d5 d6 d7
        refine bodyPost_ret (v := .agg #[.int .i64 R.room, .slice fg F.length fcap, .slice dg N.length dcap, .slice dg N.length dcap, .slice none 0 0, .int .i64 0, .int .i64 (-1), .slice none 0 0]) (by simp [results, Try.results30, go_sem, d0, d1, d2, d3, d4, d5, d6, d7]) rfl ⟨_, rfl, ?_, ?_⟩
        · rw [HCR.out, ← HFF.out, ← HNN.out]
          refine RFs.mk (R := { emptyR with room := R.room, left := -1, files := F, dir := N, sure := N }) (cvs := []) (HF7.out.to fun k hk => putFS_other (show k ≠ w.heap.size + 1 by have := HOW.out k (.inl hk); omega) _ _ _ _ _ _ _ _) (HD7.out.to fun k hk => putFS_other (show k ≠ w.heap.size + 1 by have := HOW.out k (.inr hk); omega) _ _ _ _ _ _ _ _) (HD7.out.to fun k hk => putFS_other (show k ≠ w.heap.size + 1 by have := HOW.out k (.inr hk); omega) _ _ _ _ _ _ _ _) (.inl ⟨rfl, rfl⟩) ⟨rfl, fun i c h => by cases h⟩ (.inl ⟨rfl, rfl⟩)
            (fun k hk => by have := HOW.out k (.inl hk); omega) (fun k hk => by have := HOW.out k (.inr hk); omega) (fun k hk => by have := HOW.out k (.inr hk); omega) (fun k hk => by cases hk) (fun k hk => by cases hk.1)
        · exact putFS_below HB7.out (by omega) _ _ _ _ _ _ _ _
  case first =>
  go_wp2_with fail
  go_loopw [8, 9] (fun s8 s9 wr => ∃ (k : Nat) (dv : Value), k ≤ m ∧ s9 = .int .i64 k ∧ s8 = dv ∧ RNames wr dv (preR R k) ∧ (∀ j, dv.ownBlock = some j → j < w.heap.size ∨ w.heap.size + 3 ≤ j) ∧ Below wB.heap.size wB wr)
    (fun _ s9 _ => m - (intOf s9).toNat)
  case atStart => exact ⟨0, _, Nat.zero_le _, rfl, rfl, hsu0, hown0, Below.refl _ _⟩
  case round =>
    clear hsu0 hown0
    obtain ⟨k, dv, hkm, rfl, rfl, hdv, hown, hbr⟩ := hrel
    obtain ⟨ga, gc, rfl⟩ := hdv.slice
    have hk0 := (show Blk wr w.heap.size 33 [.int .i64 R.room, .slice fa R.files.length fc, .slice da R.dir.length dc, .slice sa R.sure.length sc, .slice ca R.changes.length cc, .int .i64 R.steps, .int .i64 R.left, .slice pa R.plan.length pc] from (hbr.block _ HK0.out.lt).trans HK0.out)
    have x4 := hk0.cell (i := 4) rfl
    have HDV := Lib.hid hdv
    have HOW := Lib.hid hown
    have HBR := Lib.hid hbr
    clear hk0 hdv hown hbr
    by_cases hlt : k < m
    · obtain ⟨l1, l2⟩ := (HM2.out k).1 hlt
      have hkc : k < R.changes.length := by omega
      obtain ⟨u, hu1, hu2, hu3⟩ := HCH.out.2 k _ (List.getElem?_eq_getElem hkc)
      have hcl := HEA.out _ (List.getElem_mem hkc)
      have HPS := Lib.hid (preR_succ R hkc)
      generalize R.changes[k] = ck at hu2 hcl HPS
      obtain ⟨ua, uc, rfl⟩ := hu2.slice
      have hbw := HBB.out.trans (HBR.out.mono HBB.out.size)
      have hrow := HCV.out
      rcases hrow with ⟨_, h0⟩ | ⟨cb, co, cap, hv, hb, hc⟩
      · rw [h0] at hu1; cases hu1
      rw [HCH.out.1] at hv
      cases hv
      have c5 : wr.cell? ⟨cb, co + k, none⟩ = some (.slice ua ck.length uc) := by rw [World.cell?_of_block (w := w) (hbw.block cb hb)]; exact hc k _ hu1
      have HC5 : Hid (∀ W, Below wB.heap.size wB W → W.cell? ⟨cb, co + k, none⟩ = some (.slice ua ck.length uc)) := fun W hW => by rw [World.cell?_of_block (w := w) ((HBB.out.trans (hW.mono HBB.out.size)).block cb hb)]; exact hc k _ hu1
      have HUN := Lib.hid hu2
      have HCL := Lib.hid hcl
      have HPL : Hid ((preR R k).length < 3000) := by show _ < _; have := HLN.out k; have := HB1.out; omega
      clear hu1 hu2 hu3 hcl hbw hb hc
      obtain ⟨D, hD⟩ : ∃ D, D = preR R k := ⟨_, rfl⟩
      rw [← hD] at HDV HPL HPS HOW
      try rw [← hD]
      clear hD
      go_wp2_with fail
      clear x4 c5
      go_loopw [8, 37] (fun s8 s37 wq => ∃ (i : Nat) (dv : Value), i ≤ ck.length ∧ s37 = .int .i64 i ∧ s8 = dv ∧ RNames wq dv (turnR D (ck.take i)) ∧ (∀ j, dv.ownBlock = some j → j < w.heap.size ∨ w.heap.size + 3 ≤ j) ∧ Below wB.heap.size wB wq)
        (fun _ s37 _ => ck.length - (intOf s37).toNat)
      case atStart => exact ⟨0, _, Nat.zero_le _, rfl, rfl, HDV.out, HOW.out, HBR.out⟩
      case round =>
        clear HDV HOW HBR
        obtain ⟨i, dv, hi, rfl, rfl, hdv, hown, hbr⟩ := hrel
        obtain ⟨ga, gc, rfl⟩ := hdv.slice
        have hk0 := (show Blk wr w.heap.size 33 [.int .i64 R.room, .slice fa R.files.length fc, .slice da R.dir.length dc, .slice sa R.sure.length sc, .slice (some ⟨cb, co, none⟩) R.changes.length cc, .int .i64 R.steps, .int .i64 R.left, .slice pa R.plan.length pc] from (hbr.block _ HK0.out.lt).trans HK0.out)
        have x4 := hk0.cell (i := 4) rfl
        have c5 := HC5.out wr hbr
        by_cases hit : i < ck.length
        · have li : (i : Int) < ck.length := by omega
          have htk := turnR_take D ck hit
          have htl2 : (turnR D (ck.take i)).length < 10000 := by have := turnR_length (ck.take i) D; have := HPL.out; have := HCL.out; rw [List.length_take] at *; omega
          have hbw := HBB.out.trans (hbr.mono HBB.out.size)
          rcases HUN.out.below hbw with ⟨_, h0⟩ | ⟨nb, no, ncap, hnv, hnb, hnc⟩
          · rw [h0] at hit; simp at hit
          cases hnv
          obtain ⟨c1, c2⟩ := hnc i _ (List.getElem?_eq_getElem hit)
          generalize ck[i] = n at c1 c2 htk
          obtain ⟨xs, xf⟩ := n
          simp only at c1 c2
          obtain ⟨T, hT⟩ : ∃ T, T = turnR D (ck.take i) := ⟨_, rfl⟩
          rw [← hT] at hdv htl2 htk
          try rw [← hT]
          have HW := Lib.hid (refWith_any _ T (xs, xf) wr hdv htl2)
          have HTK := Lib.hid htk
          have HBR := Lib.hid hbr
          have hwl : w.heap.size + 3 ≤ wr.heap.size := by have := HKC.out.lt; have := hbr.size; omega
          have HWL := Lib.hid hwl
          clear hT hdv hown hbr htk htl2 hbw hnb hnc hwl hk0
          go_wp2_with fail
          refine HW.out.mono ?_; rintro e w2 ⟨v2, rfl, ho2, hb2⟩
          rw [← HTK.out] at ho2
          have HR1 : Hid (RNames w2 v2 (turnR D (ck.take (i + 1)))) := ho2.names
          have HR2 : Hid (∀ j, v2.ownBlock = some j → j < w.heap.size ∨ w.heap.size + 3 ≤ j) := fun j hj => .inr (by have := ho2.own j hj; have := HWL.out; omega)
          have HR3 : Hid (Below wB.heap.size wB w2) := HBR.out.trans (hb2.mono HBR.out.size)
          clear ho2 hb2 c1 c2 c5 x4
          have hb9 := HCL.out
          go_wp2_with fail
          go_roundw
          case rel => exact ⟨i + 1, _, by omega, by go_num, rfl, HR1.out, HR2.out, HR3.out⟩
          case measure => simp [intOf]; omega
        · have li : ¬ ((i : Int) < ck.length) := by omega
          rw [List.take_of_length_le (show ck.length ≤ i by omega), ← HPS.out] at hdv
          have hsame : turnR D (ck.take i) = preR R (k + 1) := by rw [List.take_of_length_le (show ck.length ≤ i by omega), ← HPS.out]
          rw [hsame] at hown
          try rw [hsame]
          have HR1 := Lib.hid hdv
          have HR2 := Lib.hid hown
          have HR3 := Lib.hid hbr
          clear hdv hown hbr hsame hk0 x4 c5
          have hb9 := HB1.out.2.1
          have hb8 := HM1.out
          go_wp2_with fail
          go_roundw
          case rel => exact ⟨k + 1, _, by omega, by go_num, rfl, HR1.out, HR2.out, HR3.out⟩
          case measure => simp [intOf]; omega
    · obtain rfl : k = m := by omega
      have HR1 := Lib.hid HDV.out
      have HR2 := Lib.hid HOW.out
      have HR3 := Lib.hid HBR.out
      have hb8 := HM1.out
      have hnot : ¬ ((k : Int) < dirs ∧ (k : Int) < R.changes.length) := fun h => by have := (HM2.out k).2 h; omega
      by_cases l1 : (k : Int) < dirs
      · have l2 : ¬ (k : Int) < R.changes.length := fun h => hnot ⟨l1, h⟩
        clear hnot HDV HOW HBR
        go_wp2_with fail
        go_meet
        exact ⟨_, rfl, HR1.out, HR2.out, HR3.out⟩
      · clear hnot HDV HOW HBR
        go_wp2_with fail
        go_meet
        exact ⟨_, rfl, HR1.out, HR2.out, HR3.out⟩
end Go.Proofs.Ytpfbiijcmmkjlaa
