/- SimfsPlays, SimfsTwice: 'Tells': all that is told is the document's. SimfsPlays, SimfsTwice: rows of numbers and of bytes of one's own; a row that is changed while a file system stands beside it. SimfsPlays, SimfsTwice: 'fits'; the script in memory. SimfsPlays, SimfsTwice: 'Play': one call, of the program and of the document. -/
import Derived.Test.YtigbgajelkknbaaGreatDoorFsSd
import Derived.Deep.RegionHeldLaw
import Derived.Deep.DeepCutAuto
import Derived.Deep.CutBlock
namespace Go.Proofs.YtigbgajelkknbaaGreatDoor
open Go.RowKit Go.Maps Go.WideMaps
set_option maxRecDepth 100000

/-- Bytes in a row of one's own. -/
def OwnU (base : Nat) (w : World) (v : Value) (ys : List Int) : Prop := w.ownsRow base 5 1 v ys.length (ys.map (Value.int .u8))
section
variable {w w' : World} {base : Nat} {v : Value} {g : Addr} {n c : Nat} {ys : List Int}
theorem OwnU.slice (h : OwnU base w v ys) : ∃ a c, v = .slice a ys.length c := by
  rcases h.2 with ⟨rfl, h0⟩ | ⟨x, cap, cur, rfl, _⟩
  · exact ⟨none, 0, by rw [h0]⟩
  · exact ⟨_, _, rfl⟩
theorem OwnU.bytes (h : OwnU base w v ys) : Bytes w v ys := by
  rcases h.2 with ⟨rfl, h0⟩ | ⟨x, cap, cur, rfl, _, hh, h1, h2, h3, h4⟩
  · exact .inl ⟨rfl, List.length_eq_zero_iff.1 h0⟩
  · refine .inr (.inr ⟨x, 0, cap, rfl, h1, (Array.getElem?_eq_some_iff.1 hh).1, fun j u hu => ?_⟩)
    have hj : j < ys.length := by have := (List.getElem?_eq_some_iff.1 hu).1; simpa using this
    rw [← h4, List.getElem?_take_of_lt (by omega)] at hu
    rw [Nat.zero_add, cell_of_row w x j cur _ _ hh, ← Array.getElem?_toList]; exact hu
theorem OwnU.cell (h : OwnU base w (.slice (some g) n c) ys) (i : Nat) (hi : i < ys.length) :
    g.off = 0 ∧ g.spot = none ∧ base ≤ g.block ∧ g.block < w.heap.size ∧ w.cell? ⟨g.block, i, none⟩ = some (.int .u8 (ys.getD i 0)) ∧ w.frozen? ⟨g.block, i, none⟩ = false := by
  rcases h.2 with ⟨h1, _⟩ | ⟨x, cap, cur, h1, h2, h3, h4, _, h5, h6⟩
  · cases h1
  · cases h1
    refine ⟨rfl, rfl, h2, (Array.getElem?_eq_some_iff.1 h3).1, ?_, frozen_of_row w x i cur _ h3⟩
    rw [cell_of_row w x i cur _ _ h3, ← Array.getElem?_toList]
    have h7 : (cur.toList.take (ys.length * 1))[i]? = some (.int .u8 (ys.getD i 0)) := by
      rw [h6, List.getElem?_map, List.getD_eq_getElem?_getD, List.getElem?_eq_getElem hi]; rfl
    rwa [List.getElem?_take_of_lt (by omega)] at h7
theorem OwnU.set (h : OwnU base w (.slice (some g) n c) ys) (i : Nat) (y : Int) : OwnU base (w.setCell ⟨g.block, i, none⟩ (.int .u8 y)) (.slice (some g) n c) (ys.set i y) := by
  refine ⟨by simp, ?_⟩
  rcases h.2 with ⟨h1, _⟩ | ⟨x, cap, cur, h1, h2, h3, h4, h4', h5, h6⟩
  · cases h1
  · cases h1
    refine .inr ⟨x, c, cur.setIfInBounds i (.int .u8 y), by rw [List.length_set], h2, heap_setCell_same w x i cur _ (.int .u8 y) h3, by rw [List.length_set]; exact h4, h4', by simpa using h5, ?_⟩
    rw [List.length_set, Array.toList_setIfInBounds, List.map_set, ← h6, List.take_set]
end
/-- The names that 'List' answers, cell by cell. -/
theorem listed {w : World} {base : Nat} {v : Value} {D : List RN} (h : w.ownsRow base 9 1 v (D.map nmL).length ((D.map nmL).map Go.Proofs.encStr)) :
    ∃ a c, v = .slice a D.length c ∧ ∀ (W : World), Below w.heap.size w W → ∀ (i : Nat) (x : RN), D[i]? = some x → ∃ b, a = some ⟨b, 0, none⟩ ∧ W.cell? ⟨b, i, none⟩ = some (.string x.1) := by
  rw [List.length_map] at h
  rcases h.2 with ⟨rfl, h0⟩ | ⟨b, cap, cur, rfl, hb, hh, h1, h2, h3, h4⟩
  · exact ⟨none, 0, by rw [h0], fun W _ i x hx => by rw [List.length_eq_zero_iff.1 h0] at hx; cases hx⟩
  · refine ⟨_, _, rfl, fun W hW i x hx => ⟨b, rfl, ?_⟩⟩
    have hi := (List.getElem?_eq_some_iff.1 hx).1
    rw [World.cell?_of_block (w := w) (hW.block b (Array.getElem?_eq_some_iff.1 hh).1), cell_of_row w b i cur _ _ hh, ← Array.getElem?_toList]
    have h5 : (cur.toList.take (D.length * 1))[i]? = some (.string x.1) := by
      rw [h4, List.getElem?_map, List.getElem?_map, hx]
      show some (Go.Proofs.encStr (nmL x)) = _
      unfold Go.Proofs.encStr nmL
      rw [bytes_back]
    rwa [List.getElem?_take_of_lt (by omega)] at h5
set_option maxRecDepth 100000 in
set_option maxHeartbeats 8000000 in
theorem tells_any {w0 : World} {g n : Nat} {S : Nat → Prop} {A : FsA} {R : RSt} (v : Value) (w : World) (h : PF w0 w g S A) (hI : Inv A n) (hn : n < 900) (hS : Sim A R) (hr : RFs (fun k => ¬ S k) w v R) :
    Calls Tryz.prog 19 #[.pointer (some ⟨g, 0, none⟩), v] w fun e w' => e = .returned (.bool true) ∧ Below w.heap.size w w' := by
  obtain ⟨fa, fc, da, dc, sa, sc, ca, cc, pa, pc, cvs, rfl, h1, h2, -⟩ := hr.parts
  have hsz := hI.sizeNow
  have HLI := Lib.hid (fun (W : World) (hW : Below w.heap.size w W) => list_any g S A W (h.fs.below hW) (by omega))
  have HUS := Lib.hid (fun (W : World) (hW : Below w.heap.size w W) => used_any g S A W (h.fs.below hW) hI.okNow hI.short (by omega))
  have HRU := Lib.hid (fun (W : World) (hW : Below w.heap.size w W) => refUsed_any _ R W (hr.below hW) (hS.ok hI (by omega)) (hS.well hI))
  have HST := Lib.hid (fun (W : World) (hW : Below w.heap.size w W) => steps_any g S A W (h.fs.below hW))
  have HRD := Lib.hid (fun (W : World) (hW : Below w.heap.size w W) (s : ByteArray) (hs : s.size ≤ 9223372036854775807) => read_any g S A s W (h.fs.below hW) hI.named hI.short hs)
  have hnm := hS.names hI
  have huu := hS.used hI
  rw [hnm] at HLI
  rw [huu] at HUS
  rw [← hS.steps] at HST
  have HFI := Lib.hid (fun (x : RN) (hx : x ∈ R.dir) => show ∃ (k : Nat) (f : Fil), x.2 = k ∧ k < R.files.length ∧ R.files[k]? = some (filR f) ∧ readA A x.1 = (f.data, 0) ∧ f.data.length ≤ 65536 ∧ x.1.size ≤ 20 by
    have hgd := hS.good R.changes.length x (by rw [← hS.dir]; exact hx)
    have hfm := findR_mem R.dir (hS.now hI).rise hx
    rcases hS.find hI x.1 with ⟨g1, g2⟩ | ⟨b, f, g1, g2, g3, g4, g5, g6⟩
    · have := ((hS.now hI).num x hx).1; omega
    · refine ⟨f.num.toNat, f, by omega, by omega, g6, ?_, (hI.short b f g2).1, (nameB_size hgd).2⟩
      unfold readA findA
      rw [if_pos hgd, g1]
      simp [noneCode, g2])
  have H1 := Lib.hid h1
  have H2 := Lib.hid h2
  have HDL := Lib.hid (show R.dir.length < 1000 by rw [hS.dirlen hI]; omega)
  clear h1 h2 hr h hI hS hnm huu hsz
  go_enter Tryz.func19, Tryz.ntmps19
  go_upto_region 1 with fail
  refine wp_world fun wB hwB => ?_
  have hBB : Below w.heap.size w wB := by rw [hwB]; exact (Below.refl _ _).alloc (Nat.le_refl _) _
  have hK0 : Blk wB w.heap.size 33 [.int .i64 R.room, .slice fa R.files.length fc, .slice da R.dir.length dc, .slice sa R.sure.length sc, .slice ca R.changes.length cc, .int .i64 R.steps, .int .i64 R.left, .slice pa R.plan.length pc] := by rw [hwB]; exact Blk.new w 33 [.int .i64 R.room, .slice fa R.files.length fc, .slice da R.dir.length dc, .slice sa R.sure.length sc, .slice ca R.changes.length cc, .int .i64 R.steps, .int .i64 R.left, .slice pa R.plan.length pc]
  have HBB := Lib.hid hBB
  have HK0 := Lib.hid hK0
  clear hwB hBB hK0
  go_wp2_with fail
  refine (HLI.out wB HBB.out).mono ?_; rintro e w1 ⟨lv, rfl, hlo, hb1⟩
  obtain ⟨la, lc, rfl, hlc⟩ := listed hlo
  have HLC := Lib.hid hlc
  have HB1 := Lib.hid (HBB.out.trans (hb1.mono HBB.out.size))
  have HK1 := Lib.hid (show Blk w1 w.heap.size 33 [.int .i64 R.room, .slice fa R.files.length fc, .slice da R.dir.length dc, .slice sa R.sure.length sc, .slice ca R.changes.length cc, .int .i64 R.steps, .int .i64 R.left, .slice pa R.plan.length pc] from (hb1.block _ HK0.out.lt).trans HK0.out)
  clear hlo hlc hb1 HK0
  go_upto_region 2 with fail
  have HBD := Lib.hid (⟨rfl, rfl, rfl, Nat.le_refl _, fun _ _ => rfl⟩ : Below w1.heap.size w1 w1.drew)
  have HSK : Hid (∀ W, Below w1.heap.size w1 W → (W.cell? ⟨w.heap.size, 0, none⟩ = some (.int .i64 R.room) ∧ W.cell? ⟨w.heap.size, 1, none⟩ = some (.slice fa R.files.length fc) ∧ W.cell? ⟨w.heap.size, 2, none⟩ = some (.slice da R.dir.length dc) ∧ W.cell? ⟨w.heap.size, 3, none⟩ = some (.slice sa R.sure.length sc) ∧ W.cell? ⟨w.heap.size, 4, none⟩ = some (.slice ca R.changes.length cc) ∧ W.cell? ⟨w.heap.size, 5, none⟩ = some (.int .i64 R.steps) ∧ W.cell? ⟨w.heap.size, 6, none⟩ = some (.int .i64 R.left) ∧ W.cell? ⟨w.heap.size, 7, none⟩ = some (.slice pa R.plan.length pc))) := fun W hW => by
    obtain ⟨x0, x1, x2, x3, x4, x5, x6, x7, -⟩ := (show Blk W w.heap.size 33 [.int .i64 R.room, .slice fa R.files.length fc, .slice da R.dir.length dc, .slice sa R.sure.length sc, .slice ca R.changes.length cc, .int .i64 R.steps, .int .i64 R.left, .slice pa R.plan.length pc] from (hW.block _ HK1.out.lt).trans HK1.out).fs
    exact ⟨x0, x1, x2, x3, x4, x5, x6, x7⟩
  have HUP : Hid (∀ W, Below w1.heap.size w1 W → Below w.heap.size w W) := fun W hW => HB1.out.trans (hW.mono HB1.out.size)
  go_region_held_law (fun W => W.cell? ⟨w.heap.size, 0, none⟩ = some (.int .i64 R.room) ∧ W.cell? ⟨w.heap.size, 1, none⟩ = some (.slice fa R.files.length fc) ∧ W.cell? ⟨w.heap.size, 2, none⟩ = some (.slice da R.dir.length dc) ∧ W.cell? ⟨w.heap.size, 3, none⟩ = some (.slice sa R.sure.length sc) ∧ W.cell? ⟨w.heap.size, 4, none⟩ = some (.slice ca R.changes.length cc) ∧ W.cell? ⟨w.heap.size, 5, none⟩ = some (.int .i64 R.steps) ∧ W.cell? ⟨w.heap.size, 6, none⟩ = some (.int .i64 R.left) ∧ W.cell? ⟨w.heap.size, 7, none⟩ = some (.slice pa R.plan.length pc)) (first | assumption | (exact HSK.out _ HBD.out) | (exact HSK.out _ ((HBD.out.trans hb2).trans (hb3.mono (HBD.out.trans hb2).size))) | (exact HSK.out _ (HBD.out.trans hb2)))
    (first | (go_simp; go_at_call 65; refine (HUS.out _ (HUP.out _ HBD.out)).mono ?_; rintro e w2 ⟨rfl, hb2⟩) | (go_simp; go_at_call 66; refine (HRU.out _ (HUP.out _ (HBD.out.trans hb2))).mono ?_; rintro e w3 ⟨rfl, hb3⟩) | (go_simp; go_at_call 67; refine (HST.out _ (HUP.out _ ((HBD.out.trans hb2).trans (hb3.mono (HBD.out.trans hb2).size)))).mono ?_; rintro e w4 ⟨rfl, rfl⟩))
  have HB5 := Lib.hid (HUP.out _ ((HBD.out.trans hb2).trans (hb3.mono (HBD.out.trans hb2).size)))
  have hb15 : Below w1.heap.size w1 w3 := (HBD.out.trans hb2).trans (hb3.mono (HBD.out.trans hb2).size)
  have HB15 := Lib.hid hb15
  clear hb2 hb3 hb15 HBD HSK
  go_wp2_with fail
  go_loopw [36] (fun s36 wr => ∃ i : Nat, i ≤ R.dir.length ∧ s36 = .int .i64 i ∧ Below w1.heap.size w1 wr)
    (fun s36 _ => R.dir.length - (intOf s36).toNat)
  case atStart => exact ⟨0, Nat.zero_le _, rfl, HB15.out⟩
  case round =>
    obtain ⟨i, hi, rfl, hbr⟩ := hrel
    have HBR := Lib.hid hbr
    clear hbr
    by_cases hlt : i < R.dir.length
    · have li : (i : Int) < R.dir.length := by omega
      have hdi := List.getElem?_eq_getElem hlt
      obtain ⟨k, f, hk, hkl, hkf, hrd, hfl, hxs⟩ := HFI.out R.dir[i] (List.getElem_mem hlt)
      generalize R.dir[i] = x at hdi hk hrd hxs
      obtain ⟨xs, xf⟩ := x
      simp only at hk hrd hxs
      subst hk
      obtain ⟨lb, hla, e0⟩ := HLC.out wr HBR.out i _ hdi
      subst hla
      simp only at e0
      have HRR := Lib.hid (HRD.out wr (HUP.out wr HBR.out) xs (by omega))
      rw [hrd] at HRR
      have HDI := Lib.hid hdi
      have HKF := Lib.hid hkf
      have HKL := Lib.hid hkl
      have HFZ := Lib.hid hfl
      clear hdi hkf hkl hfl hrd hxs
      go_wp2_with fail
      clear e0
      refine HRR.out.mono ?_; rintro e w6 ⟨rv, rfl, hcp⟩
      have hou : OwnU wr.heap.size w6 rv f.data := hcp.1
      obtain ⟨ra, rc, rfl⟩ := hou.slice
      have hb6 : Below wr.heap.size wr w6 := hcp.2
      have HB6 := Lib.hid hb6
      have HOU := Lib.hid hou
      have hbt : Below w1.heap.size w1 w6 := HBR.out.trans (hb6.mono HBR.out.size)
      have HBT := Lib.hid hbt
      have hbw := HUP.out w6 hbt
      obtain ⟨lb', hla', e0⟩ := HLC.out w6 hbt i _ HDI.out
      cases hla'
      simp only at e0
      obtain ⟨x0, x1, x2, -⟩ := (show Blk w6 w.heap.size 33 [.int .i64 R.room, .slice fa R.files.length fc, .slice da R.dir.length dc, .slice sa R.sure.length sc, .slice ca R.changes.length cc, .int .i64 R.steps, .int .i64 R.left, .slice pa R.plan.length pc] from (hbt.block _ HK1.out.lt).trans HK1.out).fs
      rcases H2.out.below hbw with ⟨_, h9⟩ | ⟨db, do_, dcap, hdv, _, hdc⟩
      · have h8 := HDI.out; rw [h9] at h8; cases h8
      obtain ⟨e1, e2⟩ := hdc i _ HDI.out
      cases hdv
      rcases H1.out.below hbw with ⟨_, h9⟩ | ⟨fb, fo, fcap, hfv, _, hfc⟩
      · have h8 := HKF.out; rw [h9] at h8; cases h8
      obtain ⟨e3, -⟩ := hfc k _ HKF.out
      cases hfv
      simp only [filR] at e1 e2 e3
      have lk : (k : Int) < R.files.length := by have := HKL.out; omega
      have kcv : ∀ q, (convert 37 9 (.slice ra f.data.length rc)).run Tryz.prog (w6.drewN q) = .ok (.string (strOfNums f.data)) (w6.drewN q) := fun q => run_string (OwnU.bytes (show OwnU wr.heap.size (w6.drewN q) _ _ from hou))
      clear hcp hou hb6 hbt hbw hdc hfc
      go_upto_region 8 with fail
      go_quiet (fail)
      generalize hw7 : w6.drewN nq = w7
      have hou7 : OwnU wr.heap.size w7 (.slice ra f.data.length rc) f.data := by rw [← hw7]; exact HOU.out
      have hb7 : Below wr.heap.size wr w7 := by rw [← hw7]; exact Below.drewN HB6.out nq
      clear hw7 e0 e1 e2 e3 x0 x1 x2 kcv lk HRR HOU HB6
      go_wp2_with fail
      obtain ⟨wo, rfl⟩ : ∃ wo : World, wo = wr := ⟨_, rfl⟩
      go_loopw [81] (fun s81 wq => ∃ (j : Nat) (ys : List Int), j ≤ f.data.length ∧ s81 = .int .i64 j ∧ ys.length = f.data.length ∧ OwnU wo.heap.size wq (.slice ra f.data.length rc) ys ∧ Below wo.heap.size wo wq)
        (fun s81 _ => f.data.length - (intOf s81).toNat)
      case atStart => exact ⟨0, f.data, Nat.zero_le _, rfl, rfl, hou7, hb7⟩
      case round =>
        clear hou7 hb7
        obtain ⟨j, ys, hj, rfl, hyl, hoy, hby⟩ := hrel
        by_cases hjt : j < f.data.length
        · have lj : (j : Int) < f.data.length := by omega
          cases ra with
          | none =>
            rcases hoy.2 with ⟨h0, h1⟩ | ⟨_, _, _, h0, _⟩
            · omega
            · cases h0
          | some ga =>
            obtain ⟨gb, go, gs⟩ := ga
            obtain ⟨g1, g2, g3, g4, g5, g6⟩ := OwnU.cell (by rw [← hyl] at hoy; exact hoy) j (by omega)
            simp only at g1 g2 g3 g4 g5 g6
            subst g1 g2
            have HSET := Lib.hid (fun y => OwnU.set hoy j y)
            have HBY := Lib.hid hby
            have HG := Lib.hid g3
            have hjb : f.data.length ≤ 65536 := HFZ.out
            clear hoy hby g3 g4
            go_wp2_with fail
            go_roundw
            case rel => exact ⟨j + 1, _, by omega, by go_num, by rw [List.length_set]; exact hyl, HSET.out _, HBY.out.setCell (p := ⟨gb, j, none⟩) HG.out _⟩
            case measure => simp [intOf]; omega
        · have lj : ¬ ((j : Int) < f.data.length) := by omega
          have HBY := Lib.hid hby
          clear hoy hby
          have hdl := HDL.out
          go_wp2_with fail
          go_roundw
          case rel => exact ⟨i + 1, by omega, by go_num, HBR.out.trans (HBY.out.mono HBR.out.size)⟩
          case measure => simp [intOf]; omega
    · have li : ¬ ((i : Int) < R.dir.length) := by omega
      go_wp2_with fail
      go_ret
      exact ⟨rfl, HUP.out wr HBR.out⟩
end Go.Proofs.YtigbgajelkknbaaGreatDoor
namespace Go.Proofs.YtigbgajelkknbaaGreatDoor
open Go.RowKit Go.Maps Go.WideMaps
set_option maxRecDepth 100000

/-- Numbers in a row of one's own. -/
def OwnI (base : Nat) (w : World) (v : Value) (ys : List Int) : Prop := w.ownsRow base 3 1 v ys.length (ys.map (Value.int .i64))
section
variable {w w' : World} {base : Nat} {v : Value} {g : Addr} {n c : Nat} {ys : List Int}
theorem OwnI.slice (h : OwnI base w v ys) : ∃ a c, v = .slice a ys.length c := by
  rcases h.2 with ⟨rfl, h0⟩ | ⟨x, cap, cur, rfl, _⟩
  · exact ⟨none, 0, by rw [h0]⟩
  · exact ⟨_, _, rfl⟩
theorem OwnI.ints (h : OwnI base w v ys) : Ints w v ys := by
  rcases h.2 with ⟨rfl, h0⟩ | ⟨x, cap, cur, rfl, _, hh, h1, h2, h3, h4⟩
  · exact .inl ⟨rfl, List.length_eq_zero_iff.1 h0⟩
  · refine .inr ⟨x, 0, cap, rfl, (Array.getElem?_eq_some_iff.1 hh).1, fun j u hu => ?_⟩
    have hj : j < ys.length := by have := (List.getElem?_eq_some_iff.1 hu).1; simpa using this
    rw [← h4, List.getElem?_take_of_lt (by omega)] at hu
    rw [Nat.zero_add, cell_of_row w x j cur _ _ hh, ← Array.getElem?_toList]; exact hu
theorem OwnI.cell (h : OwnI base w (.slice (some g) n c) ys) (i : Nat) (hi : i < ys.length) :
    g.off = 0 ∧ g.spot = none ∧ base ≤ g.block ∧ g.block < w.heap.size ∧ w.cell? ⟨g.block, i, none⟩ = some (.int .i64 (ys.getD i 0)) ∧ w.frozen? ⟨g.block, i, none⟩ = false := by
  rcases h.2 with ⟨h1, _⟩ | ⟨x, cap, cur, h1, h2, h3, h4, _, h5, h6⟩
  · cases h1
  · cases h1
    refine ⟨rfl, rfl, h2, (Array.getElem?_eq_some_iff.1 h3).1, ?_, frozen_of_row w x i cur _ h3⟩
    rw [cell_of_row w x i cur _ _ h3, ← Array.getElem?_toList]
    have h7 : (cur.toList.take (ys.length * 1))[i]? = some (.int .i64 (ys.getD i 0)) := by
      rw [h6, List.getElem?_map, List.getD_eq_getElem?_getD, List.getElem?_eq_getElem hi]; rfl
    rwa [List.getElem?_take_of_lt (by omega)] at h7
theorem OwnI.set (h : OwnI base w (.slice (some g) n c) ys) (i : Nat) (y : Int) : OwnI base (w.setCell ⟨g.block, i, none⟩ (.int .i64 y)) (.slice (some g) n c) (ys.set i y) := by
  refine ⟨by simp, ?_⟩
  rcases h.2 with ⟨h1, _⟩ | ⟨x, cap, cur, h1, h2, h3, h4, h4', h5, h6⟩
  · cases h1
  · cases h1
    refine .inr ⟨x, c, cur.setIfInBounds i (.int .i64 y), by rw [List.length_set], h2, heap_setCell_same w x i cur _ (.int .i64 y) h3, by rw [List.length_set]; exact h4, h4', by simpa using h5, ?_⟩
    rw [List.length_set, Array.toList_setIfInBounds, List.map_set, ← h6, List.take_set]
end
theorem intRowInfo : (Tryz.prog.info? 3).map (fun i => (i.zero, i.size, i.bytes)) = some (some (.int .i64 0), 1, 8) := by kernel_rfl
theorem OwnI.empty (w : World) : OwnI w.heap.size (w.alloc (.cells #[] 3)) (.slice (some ⟨w.heap.size, 0, none⟩) 0 0) [] :=
  ⟨rfl, .inr ⟨w.heap.size, 0, #[], rfl, Nat.le_refl _, heap_alloc_new w _, Nat.le_refl _, by unfold maxLen; omega, rfl, rfl⟩⟩
theorem ones_ints (p : List Int) : ∀ u ∈ p.map (Value.int .i64), u.oneCell' = true := fun u hu => by obtain ⟨n, _, rfl⟩ := List.mem_map.1 hu; rfl
theorem wpList_append_ints {ops : Array Oper} {rest : List Oper} {o : Oper} {a : Act} {w w0 : World} {Q : Exit → Act → World → Prop} (hgd : o.guard = none) (s x : Operand)
    (ho : o.op = .call { callee := .builtin .append, args := #[s, x], argTypes := #[23, 23] })
    (base : Nat) (v u : Value) (ys p : List Int) (hs : a.eval s = v) (hown : OwnI base w v ys) (hx : a.eval x = u) (hp : RPlan w0 u p) (hb : Below w0.heap.size w0 w) (hle : ys.length + p.length ≤ 1000000) (hbase : base ≤ w.heap.size)
    (h : ∀ v' w', OwnI base w' v' (ys ++ p) → w.grownBy w' v.ownBlock → wpList Tryz.prog ops Q rest (a.put o.dst v') w') : wpList Tryz.prog ops Q (o :: rest) a w := by
  obtain ⟨i0, hi, hz0, hz1, hz2⟩ := info_parts intRowInfo
  rcases hp with ⟨rfl, rfl⟩ | ⟨wa, rfl, rfl⟩ | ⟨pb, po, cap, rfl, _, h3, h4⟩
  · refine wpList_append_own_none hgd s x 23 ho base 3 i0 1 Tryz.underlying23 hi v ys.length (ys.map (Value.int .i64)) hs hown hx ?_
    exact h v w (by rw [List.append_nil]; exact hown) ⟨rfl, rfl, rfl, Nat.le_refl _, fun _ _ _ => rfl⟩
  · refine wpList_append_own w hgd s x 23 ho base 3 i0 (.int .i64 0) 1 8 Tryz.underlying23 hi hz0 hz1 hz2 rfl (by decide) v ys.length (ys.map (Value.int .i64)) hs hown wa 0 0 ([].map (Value.int .i64)) hx
      (by simp) (fun j u hu => by cases hu) (fun u hu => by cases hu) (by unfold maxLen; omega) (by omega) hbase ?_
    intro v' w' h1 h2 _
    refine h v' w' ?_ h2
    unfold OwnI
    rw [List.length_append, List.map_append]; exact h1
  · refine wpList_append_own w hgd s x 23 ho base 3 i0 (.int .i64 0) 1 8 Tryz.underlying23 hi hz0 hz1 hz2 rfl (by decide) v ys.length (ys.map (Value.int .i64)) hs hown ⟨pb, po, none⟩ p.length cap (p.map (Value.int .i64)) hx
      (by simp) (fun j u hu => by rw [Addr.add_mid, World.cell?_of_block (w := w0) (hb.block pb h3)]; exact h4 j u hu) (ones_ints p) (by unfold maxLen; omega) (by omega) hbase ?_
    intro v' w' h1 h2 _
    refine h v' w' ?_ h2
    unfold OwnI
    rw [List.length_append, List.map_append]; exact h1
theorem u8RowInfo : (Tryz.prog.info? 5).map (fun i => (i.zero, i.size, i.bytes)) = some (some (.int .u8 0), 1, 1) := by kernel_rfl
theorem OwnU.empty (w : World) : OwnU w.heap.size (w.alloc (.cells #[] 5)) (.slice (some ⟨w.heap.size, 0, none⟩) 0 0) [] :=
  ⟨rfl, .inr ⟨w.heap.size, 0, #[], rfl, Nat.le_refl _, heap_alloc_new w _, Nat.le_refl _, by unfold maxLen; omega, rfl, rfl⟩⟩
theorem ones_u8s (p : List Int) : ∀ u ∈ p.map (Value.int .u8), u.oneCell' = true := fun u hu => by obtain ⟨n, _, rfl⟩ := List.mem_map.1 hu; rfl
theorem wpList_append_u8s {ops : Array Oper} {rest : List Oper} {o : Oper} {a : Act} {w w0 : World} {Q : Exit → Act → World → Prop} (hgd : o.guard = none) (s x : Operand)
    (ho : o.op = .call { callee := .builtin .append, args := #[s, x], argTypes := #[37, 37] })
    (base : Nat) (v u : Value) (ys p : List Int) (hs : a.eval s = v) (hown : OwnU base w v ys) (hx : a.eval x = u) (hp : Bytes w0 u p) (hb : Below w0.heap.size w0 w) (hle : ys.length + p.length ≤ 1000000) (hbase : base ≤ w.heap.size)
    (h : ∀ v' w', OwnU base w' v' (ys ++ p) → w.grownBy w' v.ownBlock → wpList Tryz.prog ops Q rest (a.put o.dst v') w') : wpList Tryz.prog ops Q (o :: rest) a w := by
  obtain ⟨i0, hi, hz0, hz1, hz2⟩ := info_parts u8RowInfo
  rcases hp with ⟨rfl, rfl⟩ | ⟨wa, rfl, rfl⟩ | ⟨pb, po, cap, rfl, _, h3, h4⟩
  · refine wpList_append_own_none hgd s x 37 ho base 5 i0 1 Tryz.underlying37 hi v ys.length (ys.map (Value.int .u8)) hs hown hx ?_
    exact h v w (by rw [List.append_nil]; exact hown) ⟨rfl, rfl, rfl, Nat.le_refl _, fun _ _ _ => rfl⟩
  · refine wpList_append_own w hgd s x 37 ho base 5 i0 (.int .u8 0) 1 1 Tryz.underlying37 hi hz0 hz1 hz2 rfl (by decide) v ys.length (ys.map (Value.int .u8)) hs hown wa 0 0 ([].map (Value.int .u8)) hx
      (by simp) (fun j u hu => by cases hu) (fun u hu => by cases hu) (by unfold maxLen; omega) (by omega) hbase ?_
    intro v' w' h1 h2 _
    refine h v' w' ?_ h2
    unfold OwnU
    rw [List.length_append, List.map_append]; exact h1
  · refine wpList_append_own w hgd s x 37 ho base 5 i0 (.int .u8 0) 1 1 Tryz.underlying37 hi hz0 hz1 hz2 rfl (by decide) v ys.length (ys.map (Value.int .u8)) hs hown ⟨pb, po, none⟩ p.length cap (p.map (Value.int .u8)) hx
      (by simp) (fun j u hu => by rw [Addr.add_mid, World.cell?_of_block (w := w0) (hb.block pb h3)]; exact h4 j u hu) (ones_u8s p) (by unfold maxLen; omega) (by omega) hbase ?_
    intro v' w' h1 h2 _
    refine h v' w' ?_ h2
    unfold OwnU
    rw [List.length_append, List.map_append]; exact h1
theorem step_plain' {ops : Array Oper} {o : Oper} {a : Act} {w : World} {K : Act → World → Prop} {Q : Exit → Act → World → Prop} {E : Prop} (hg : o.guard = none) (h : Oper.wp Tryz.prog o a w K Q) : if Region.wanted o (yielded ops a.tmps) = true then Oper.wp Tryz.prog o a w K Q else E := by
  have hw : Region.wanted o (yielded ops a.tmps) = true := by simp [Region.wanted, hg]
  rw [if_pos hw]; exact h
theorem step_append_ints {ops : Array Oper} {o : Oper} {a : Act} {w w0 : World} {K : Act → World → Prop} {Q : Exit → Act → World → Prop} {E : Prop} (hgd : o.guard = none) (s x : Operand)
    (ho : o.op = .call { callee := .builtin .append, args := #[s, x], argTypes := #[23, 23] })
    (base : Nat) (v u : Value) (ys p : List Int) (hs : a.eval s = v) (hown : OwnI base w v ys) (hx : a.eval x = u) (hp : RPlan w0 u p) (hb : Below w0.heap.size w0 w) (hle : ys.length + p.length ≤ 1000000) (hbase : base ≤ w.heap.size)
    (h : ∀ v' w', OwnI base w' v' (ys ++ p) → w.grownBy w' v.ownBlock → K (a.put o.dst v') w') : if Region.wanted o (yielded ops a.tmps) = true then Oper.wp Tryz.prog o a w K Q else E := by
  obtain ⟨i0, hi, hz0, hz1, hz2⟩ := info_parts intRowInfo
  rcases hp with ⟨rfl, rfl⟩ | ⟨wa, rfl, rfl⟩ | ⟨pb, po, cap, rfl, _, h3, h4⟩
  · refine step_plain' hgd ?_
    have hrun := run_append_owned_none (P := Tryz.prog) (w := w) base 23 o.type 3 i0 1 Tryz.underlying23 hi v ys.length (ys.map (Value.int .i64)) hown
    unfold Oper.wp
    simp [execOp, ho, resolve, invoke, builtin, hs, hx, hrun, Result.andThen]
    exact h v w (by rw [List.append_nil]; exact hown) ⟨rfl, rfl, rfl, Nat.le_refl _, fun _ _ _ => rfl⟩
  · refine step_plain' hgd (wp_append_own w s x 23 ho base 3 i0 (.int .i64 0) 1 8 Tryz.underlying23 hi hz0 hz1 hz2 rfl (by decide) v ys.length (ys.map (Value.int .i64)) hs hown wa 0 0 ([].map (Value.int .i64)) hx
      (by simp) (fun j u hu => by cases hu) (fun u hu => by cases hu) (by unfold maxLen; omega) (by omega) hbase ?_)
    intro v' w' h1 h2 _
    refine h v' w' ?_ h2
    unfold OwnI
    rw [List.length_append, List.map_append]; exact h1
  · refine step_plain' hgd (wp_append_own w s x 23 ho base 3 i0 (.int .i64 0) 1 8 Tryz.underlying23 hi hz0 hz1 hz2 rfl (by decide) v ys.length (ys.map (Value.int .i64)) hs hown ⟨pb, po, none⟩ p.length cap (p.map (Value.int .i64)) hx
      (by simp) (fun j u hu => by rw [Addr.add_mid, World.cell?_of_block (w := w0) (hb.block pb h3)]; exact h4 j u hu) (ones_ints p) (by unfold maxLen; omega) (by omega) hbase ?_)
    intro v' w' h1 h2 _
    refine h v' w' ?_ h2
    unfold OwnI
    rw [List.length_append, List.map_append]; exact h1
section
variable {w0 w w1 w2 : World} {g : Nat} {S S' : Nat → Prop} {A : FsA} {x : Option Nat}
theorem PF.grown (h : PF w0 w1 g S A) (hg : w1.grownBy w2 x) (hx : ∀ k, x = some k → ¬ S k ∧ w0.heap.size ≤ k) : PF w0 w2 g S A :=
  ⟨h.fs.to (fun _ h => h) fun k hk hlt => hg.block k hlt fun e => (hx k e.symm).1 hk, fun k hk => ⟨(h.lo k hk).1, Nat.lt_of_lt_of_le (h.lo k hk).2 hg.size⟩,
    h.base.grown hg h.base.size fun k hk => (hx k hk).2⟩
theorem Adv.grown (h : Adv S S' w w1) (hg : w1.grownBy w2 x) (hx : ∀ k, x = some k → w.heap.size ≤ k) : Adv S S' w w2 :=
  ⟨⟨hg.os.trans h.keep.os, hg.tape.trans h.keep.tape, hg.output.trans h.keep.output, Nat.le_trans h.keep.size hg.size, fun k hk hS => (hg.block k (Nat.lt_of_lt_of_le hk h.keep.size) fun e => by have := hx k e.symm; omega).trans (h.keep.block k hk hS)⟩, h.more⟩
theorem grown_blk {k : Nat} {t : TypeId} {cs : List Value} (hb : Blk w1 k t cs) (hg : w1.grownBy w2 x) (hx : x ≠ some k) : Blk w2 k t cs := (hg.block k hb.lt fun e => hx e.symm).trans hb
theorem grown_rfs {Q : Nat → Prop} {v : Value} {R : RSt} (hr : RFs Q w1 v R) (hg : w1.grownBy w2 x) (hx : ∀ k, Q k → x ≠ some k) : RFs Q w2 v R :=
  (hr.lt.to fun k hk => hg.block k hk.2 fun e => hx k hk.1 e.symm).mono fun _ hk => hk.1
theorem grown_refl : w1.grownBy w1 x := ⟨rfl, rfl, rfl, Nat.le_refl _, fun _ _ _ => rfl⟩
theorem grown_set {b i : Nat} {y : Value} (h : w1.grownBy w2 (some b)) : w1.grownBy (w2.setCell ⟨b, i, none⟩ y) (some b) :=
  ⟨h.os, h.tape, h.output, by rw [World.size_setCell]; exact h.size, fun k hk e => (heap_setCell_other w2 ⟨b, i, none⟩ k y (show k ≠ b from fun e2 => e (by rw [e2]))).trans (h.block k hk e)⟩
end
end Go.Proofs.YtigbgajelkknbaaGreatDoor
namespace Go.Proofs.YtigbgajelkknbaaGreatDoor
open Go.RowKit Go.Maps Go.WideMaps
set_option maxRecDepth 100000

/-- Is a call soon gone through, as the law asks it? -/
def fitsB (dl ll sn sd : Nat) : Bool := decide (dl ≤ 300) && decide (ll ≤ 100) && decide (wrap64 ((sn : Int) + sd) ≤ 100)
end Go.Proofs.YtigbgajelkknbaaGreatDoor
namespace Go.Proofs.YtigbgajelkknbaaGreatDoor
open Go.RowKit Go.Maps Go.WideMaps
set_option maxRecDepth 100000

/-- A call that a script asks for. -/
structure OpR where
  kind : Int
  num : Int
  name : ByteArray
  dest : ByteArray
  data : List Int
  nums : List Int
/-- The value v is that call. -/
def OpV (w : World) (v : Value) (o : OpR) : Prop := ∃ dv lv, v = .agg #[.int .i64 o.kind, .int .i64 o.num, .string o.name, .string o.dest, dv, lv] ∧ Bytes w dv o.data ∧ RPlan w lv o.nums
/-- It is soon gone through. -/
structure OpOk (o : OpR) : Prop where
  data : o.data.length ≤ 300
  nums : o.nums.length ≤ 100
  name : o.name.size ≤ 9223372036854775807
  dest : o.dest.size ≤ 9223372036854775807
  num : o.num ≤ 9223372036854775807
  each : ∀ k ∈ o.nums, k ≤ 9223372036854775807
/-- Blocks that the reference's file system may lie in: none of the program's, none of the three boxes. -/
def cls (w : World) (P S : Nat → Prop) : Nat → Prop := fun k => ¬ S k ∧ (k < w.heap.size ∧ P k ∨ w.heap.size + 3 ≤ k)
/-- What stands behind the call, in memory. -/
def PlR (w0 w wx : World) (n : Nat) (P S : Nat → Prop) (s0 s9 s10 : Value) : Prop :=
  ∃ (g' : Nat) (S' : Nat → Prop) (A' : FsA) (R' : RSt) (c : Int) (fa : Option Addr) (fc : Nat) (da : Option Addr) (dc : Nat) (sa : Option Addr) (sc : Nat) (ca : Option Addr) (cc : Nat) (pa : Option Addr) (pc : Nat),
    s0 = .pointer (some ⟨g', 0, none⟩) ∧ s9 = .int .i64 c ∧ s10 = .int .i64 c ∧
    Blk wx w.heap.size 33 [.int .i64 R'.room, .slice fa R'.files.length fc, .slice da R'.dir.length dc, .slice sa R'.sure.length sc, .slice ca R'.changes.length cc, .int .i64 R'.steps, .int .i64 R'.left, .slice pa R'.plan.length pc] ∧
    Blk wx (w.heap.size + 2) 33 zeroC ∧
    RFs (cls w P S') wx (.agg #[.int .i64 R'.room, .slice fa R'.files.length fc, .slice da R'.dir.length dc, .slice sa R'.sure.length sc, .slice ca R'.changes.length cc, .int .i64 R'.steps, .int .i64 R'.left, .slice pa R'.plan.length pc]) R' ∧
    PF w0 wx g' S' A' ∧ Inv A' (n + 3) ∧ Sim A' R' ∧ Adv S S' w wx ∧ ¬ S' (w.heap.size + 2)
section
variable {w0 w w1 w2 wx : World} {n g g' : Nat} {P S S' : Nat → Prop} {A A' : FsA} {v : Value}
theorem cls_adv {R : RSt} (h : Adv S S' w1 w2) (hr : RFs (cls w P S) w1 v R) : RFs (cls w P S') w2 v R :=
  (hr.lt.to fun _ hk => (h.block hk.2 hk.1.1).1).mono fun _ hk => ⟨(h.block hk.2 hk.1.1).2, hk.1.2⟩
theorem cls_ref {R : RSt} (h : PF w0 w1 g S A) (hw : w.heap.size + 3 ≤ w1.heap.size) (hr : RFs (fun k => cls w P S k ∨ w1.heap.size ≤ k) w2 v R) : RFs (cls w P S) w2 v R :=
  hr.mono fun k hk => hk.elim id fun e => ⟨fun hS => by have := (h.lo k hS).2; omega, .inr (by omega)⟩
/-- The call's answer is stored into the first box. -/
theorem PlR.fin {room2 steps2 left2 : Int} {files2 dir2 sure2 : List RN} {changes2 : List (List RN)} {plan2 : List Int} {fa2 : Option Addr} {fc2 : Nat} {da2 : Option Addr} {dc2 : Nat} {sa2 : Option Addr} {sc2 : Nat} {ca2 : Option Addr} {cc2 : Nat} {pa2 : Option Addr} {pc2 : Nat} {c : Int}
    {z0 z1 z2 z3 z4 z5 z6 z7 : Value} (k0 : Blk w2 w.heap.size 33 [z0, z1, z2, z3, z4, z5, z6, z7]) (k2 : Blk w2 (w.heap.size + 2) 33 zeroC) (hP : PF w0 w2 g' S' A') (hI : Inv A' (n + 3)) (hS : Sim A' ⟨room2, files2, dir2, sure2, changes2, steps2, left2, plan2⟩)
    (hr : RFs (cls w P S') w2 (.agg #[.int .i64 room2, .slice fa2 files2.length fc2, .slice da2 dir2.length dc2, .slice sa2 sure2.length sc2, .slice ca2 changes2.length cc2, .int .i64 steps2, .int .i64 left2, .slice pa2 plan2.length pc2]) ⟨room2, files2, dir2, sure2, changes2, steps2, left2, plan2⟩) (hA : Adv S S' w w2) (h0 : ¬ S' w.heap.size) (h2 : ¬ S' (w.heap.size + 2)) (hw0 : w0.heap.size ≤ w.heap.size) :
    PlR w0 w (putFS w2 w.heap.size (.int .i64 room2) (.slice fa2 files2.length fc2) (.slice da2 dir2.length dc2) (.slice sa2 sure2.length sc2) (.slice ca2 changes2.length cc2) (.int .i64 steps2) (.int .i64 left2) (.slice pa2 plan2.length pc2)) n P S (.pointer (some ⟨g', 0, none⟩)) (.int .i64 c) (.int .i64 c) := by
  refine ⟨g', S', A', ⟨room2, files2, dir2, sure2, changes2, steps2, left2, plan2⟩, c, fa2, fc2, da2, dc2, sa2, sc2, ca2, cc2, pa2, pc2, rfl, rfl, rfl, putFS_blk k0 (.int .i64 room2) (.slice fa2 files2.length fc2) (.slice da2 dir2.length dc2) (.slice sa2 sure2.length sc2) (.slice ca2 changes2.length cc2) (.int .i64 steps2) (.int .i64 left2) (.slice pa2 plan2.length pc2), (putFS_other (show w.heap.size + 2 ≠ w.heap.size by omega) _ _ _ _ _ _ _ _).trans k2, ?_, ?_, hI, hS, ?_, h2⟩
  · exact hr.to fun k hk => putFS_other (show k ≠ w.heap.size by rcases hk.2 with h | h <;> omega) _ _ _ _ _ _ _ _
  · have hb := putFS_below (Below.refl w.heap.size w2) (Nat.le_refl w.heap.size) (.int .i64 room2) (.slice fa2 files2.length fc2) (.slice da2 dir2.length dc2) (.slice sa2 sure2.length sc2) (.slice ca2 changes2.length cc2) (.int .i64 steps2) (.int .i64 left2) (.slice pa2 plan2.length pc2)
    exact ⟨hP.fs.to (fun _ h => h) fun k hk _ => putFS_other (show k ≠ w.heap.size by rintro rfl; exact h0 hk) _ _ _ _ _ _ _ _, fun k hk => ⟨(hP.lo k hk).1, Nat.lt_of_lt_of_le (hP.lo k hk).2 hb.size⟩, putFS_below hP.base hw0 _ _ _ _ _ _ _ _⟩
  · have hb := putFS_below (Below.refl w.heap.size w2) (Nat.le_refl w.heap.size) (.int .i64 room2) (.slice fa2 files2.length fc2) (.slice da2 dir2.length dc2) (.slice sa2 sure2.length sc2) (.slice ca2 changes2.length cc2) (.int .i64 steps2) (.int .i64 left2) (.slice pa2 plan2.length pc2)
    exact ⟨⟨hb.os.trans hA.keep.os, hb.tape.trans hA.keep.tape, hb.output.trans hA.keep.output, Nat.le_trans hA.keep.size hb.size, fun k hk hS => (hb.block k hk).trans (hA.keep.block k hk hS)⟩, hA.more⟩
end
theorem bytes_below {w w' : World} {v : Value} {p : List Int} (h : Bytes w v p) (hb : Below w.heap.size w w') : Bytes w' v p := by
  rcases h with h | h | ⟨pb, po, cap, rfl, h2, h3, h4⟩
  · exact .inl h
  · exact .inr (.inl h)
  · exact .inr (.inr ⟨pb, po, cap, rfl, h2, Nat.lt_of_lt_of_le h3 hb.size, fun j u hu => by rw [World.cell?_of_block (w := w) (hb.block pb h3)]; exact h4 j u hu⟩)
theorem grown_put {w1 : World} {b : Nat} (a0 a1 a2 a3 a4 a5 a6 a7 : Value) : w1.grownBy (putFS w1 b a0 a1 a2 a3 a4 a5 a6 a7) (some b) := by
  unfold putFS
  exact grown_set (grown_set (grown_set (grown_set (grown_set (grown_set (grown_set (grown_set grown_refl)))))))
theorem drop_set {ys ds : List Int} {j : Nat} (h : ys.drop j = ds.drop j) (y : Int) : (ys.set j y).drop (j + 1) = ds.drop (j + 1) := by
  have h1 : (ys.drop j).drop 1 = (ds.drop j).drop 1 := by rw [h]
  rw [List.drop_drop, List.drop_drop] at h1
  rw [← h1]
  apply List.ext_getElem?
  intro i
  rw [List.getElem?_drop, List.getElem?_drop, List.getElem?_set_ne (by omega)]
theorem drop_get {ys ds : List Int} {j : Nat} (h : ys.drop j = ds.drop j) (hj : j < ds.length) : (ds.map (Value.int .u8))[j]? = some (.int .u8 (ys.getD j 0)) := by
  have h1 : (ys.drop j)[0]? = (ds.drop j)[0]? := by rw [h]
  rw [List.getElem?_drop, List.getElem?_drop, Nat.add_zero, List.getElem?_eq_getElem hj] at h1
  rw [List.getElem?_map, List.getElem?_eq_getElem hj, List.getD_eq_getElem?_getD, h1]; rfl
/-- Another plan. -/
theorem RFs.withPlan {P Q : Nat → Prop} {w w' : World} {a0 a1 a2 a3 a4 a5 a6 a7 pv : Value} {R : RSt} {p : List Int} (h : RFs P w (.agg #[a0, a1, a2, a3, a4, a5, a6, a7]) R) (hs : ∀ k, P k → w'.heap[k]? = w.heap[k]?) (hf : RPlan w' pv p) (ho : OwnPl Q pv) (hq : ∀ k, P k → Q k) :
    RFs Q w' (.agg #[a0, a1, a2, a3, a4, a5, a6, pv]) { R with plan := p } := by
  obtain ⟨f1, dv, sv, cv, p1, cvs, hv, g1, g2, g3, g4, g5, g6, o1, o2, o3, o4, o5⟩ := h
  unfold fsV at hv
  injection hv with hv
  have hv := congrArg Array.toList hv
  simp only [List.cons.injEq, and_true] at hv
  obtain ⟨rfl, rfl, rfl, rfl, rfl, rfl, rfl, rfl⟩ := hv
  exact RFs.mk (R := { R with plan := p }) (g1.to fun k hk => hs k (o1 k hk)) (g2.to fun k hk => hs k (o2 k hk)) (g3.to fun k hk => hs k (o3 k hk)) (g4.to fun k hk => hs k (o4 k hk))
    ⟨g5.1, fun j c hc => by obtain ⟨u, e1, e2, e3⟩ := g5.2 j c hc; exact ⟨u, e1, e2.to fun k hk => hs k (e3 k hk), e3.mono hq⟩⟩ hf (o1.mono hq) (o2.mono hq) (o3.mono hq) (o4.mono hq) ho
/-- What a call of 'Play' answers. -/
def PlayQ (w0 w : World) (n : Nat) (P S : Nat → Prop) (e : Ending) (w' : World) : Prop :=
  ∃ g' S' A' R' v', e = .returned (.tuple #[.pointer (some ⟨g', 0, none⟩), v', .bool true]) ∧ PF w0 w' g' S' A' ∧ Inv A' (n + 3) ∧ Sim A' R' ∧ RFs (fun k => ¬ S' k ∧ (P k ∨ w.heap.size ≤ k)) w' v' R' ∧ Adv S S' w w'
set_option maxRecDepth 100000 in
set_option maxHeartbeats 16000000 in
theorem play_any {w0 w : World} {g n : Nat} {P S : Nat → Prop} {A : FsA} {R : RSt} (v ov : Value) (o : OpR) (h : PF w0 w g S A) (hI : Inv A n) (hn : n < 800) (hS : Sim A R) (hr : RFs (fun k => ¬ S k ∧ P k) w v R) (hP0 : ∀ k, k < w0.heap.size → P k) (ho : OpV w0 ov o) (hok : OpOk o) :
    Calls Tryz.prog 13 #[.pointer (some ⟨g, 0, none⟩), v, ov] w (PlayQ w0 w n P S) := by
  obtain ⟨fa, fc, da, dc, sa, sc, ca, cc, pa, pc, cvs, rfl, -⟩ := hr.parts
  obtain ⟨kind, N, nm, ds, data, l⟩ := o
  obtain ⟨dv, lv, rfl, hdv, hlv⟩ := ho
  obtain ⟨oa, oc, rfl⟩ := hdv.slice
  obtain ⟨la, lc, rfl⟩ := hlv.slice
  simp only at hdv hlv ⊢
  obtain ⟨hdl, hll, hnz, hdz, hnk, hlk⟩ := hok
  simp only at hdl hll hnz hdz hnk hlk
  have hROK := hS.ok hI (by omega)
  have hRW := hS.well hI
  have hRst : R.steps < 4611686018427387903 := by rw [hS.steps]; have := hI.c; omega
  have hRfl : R.files.length < 4000 := by have := hS.created; have := hI.cr; omega
  have hRrm : 0 ≤ R.room ∧ R.room ≤ 1048576 := by rw [hS.room]; have := hI.room; omega
  have hRpl : ∀ k ∈ R.plan, k ≤ 9223372036854775807 := by rw [hS.plan]; exact hI.po
  have HROK := Lib.hid hROK
  have HRW := Lib.hid hRW
  have HRST := Lib.hid hRst
  have HRFL := Lib.hid hRfl
  have HRRM := Lib.hid hRrm
  have HRPL := Lib.hid hRpl
  have HI := Lib.hid hI
  have HS := Lib.hid hS
  have HDV := Lib.hid hdv
  have HLV := Lib.hid hlv
  have HLK := Lib.hid hlk
  have HNN := Lib.hid hn
  have HW0 := Lib.hid h.base.size
  have HP0 := Lib.hid hP0
  have hcl0 : RFs (cls w P S) w (.agg #[.int .i64 R.room, .slice fa R.files.length fc, .slice da R.dir.length dc, .slice sa R.sure.length sc, .slice ca R.changes.length cc, .int .i64 R.steps, .int .i64 R.left, .slice pa R.plan.length pc]) R := hr.lt.mono fun k hk => ⟨hk.1.1, .inl ⟨hk.2, hk.1.2⟩⟩
  have HLO := Lib.hid (fun k (hk : S k) => (h.lo k hk).2)
  have HPFB := Lib.hid (fun (W : World) (hW : Below w.heap.size w W) => h.below hW)
  have HCLB := Lib.hid (fun (W : World) (hW : Below w.heap.size w W) => hcl0.below hW)
  clear hROK hRW hRst hRfl hRrm hRpl hI hS hdv hlv hlk hn hcl0 h hr hP0
  go_enter Tryz.func13, Tryz.ntmps13
  go_upto_region 1 with fail
  refine wp_world fun wB hwB => ?_
  have hBB : Below w.heap.size w wB := by rw [hwB]; exact (((Below.refl _ _).alloc (Nat.le_refl _) _).alloc (by simp) _).alloc (by simp; omega) _
  have hK0 : Blk wB w.heap.size 33 [.int .i64 R.room, .slice fa R.files.length fc, .slice da R.dir.length dc, .slice sa R.sure.length sc, .slice ca R.changes.length cc, .int .i64 R.steps, .int .i64 R.left, .slice pa R.plan.length pc] := by rw [hwB]; exact ((Blk.new w 33 [.int .i64 R.room, .slice fa R.files.length fc, .slice da R.dir.length dc, .slice sa R.sure.length sc, .slice ca R.changes.length cc, .int .i64 R.steps, .int .i64 R.left, .slice pa R.plan.length pc]).alloc _).alloc _
  have hK1 : Blk wB (w.heap.size + 1) 39 [.int .i64 kind, .int .i64 N, .string nm, .string ds, .slice oa data.length oc, .slice la l.length lc] := by
    rw [hwB]
    have := (Blk.new (w.alloc (.cells #[.int .i64 R.room, .slice fa R.files.length fc, .slice da R.dir.length dc, .slice sa R.sure.length sc, .slice ca R.changes.length cc, .int .i64 R.steps, .int .i64 R.left, .slice pa R.plan.length pc] 33)) 39 [.int .i64 kind, .int .i64 N, .string nm, .string ds, .slice oa data.length oc, .slice la l.length lc]).alloc (.cells zeroC.toArray 33)
    rw [World.size_alloc] at this
    exact this
  have hK2 : Blk wB (w.heap.size + 2) 33 zeroC := by
    rw [hwB]
    have := Blk.new ((w.alloc (.cells #[.int .i64 R.room, .slice fa R.files.length fc, .slice da R.dir.length dc, .slice sa R.sure.length sc, .slice ca R.changes.length cc, .int .i64 R.steps, .int .i64 R.left, .slice pa R.plan.length pc] 33)).alloc (.cells #[.int .i64 kind, .int .i64 N, .string nm, .string ds, .slice oa data.length oc, .slice la l.length lc] 39)) 33 zeroC
    rw [World.size_alloc, World.size_alloc] at this
    exact this
  have HPF := Lib.hid (HPFB.out wB hBB)
  have HCL := Lib.hid (HCLB.out wB hBB)
  have HAD := Lib.hid (Adv.of_below hBB : Adv S S w wB)
  have HNS : Hid (¬ S w.heap.size ∧ ¬ S (w.heap.size + 1) ∧ ¬ S (w.heap.size + 2)) := ⟨fun e => by have := HLO.out _ e; omega, fun e => by have := HLO.out _ e; omega, fun e => by have := HLO.out _ e; omega⟩
  have HWB : Hid (w.heap.size + 3 ≤ wB.heap.size) := by show _ ≤ _; have := hK2.lt; omega
  have HK0 := Lib.hid hK0
  have HK1 := Lib.hid hK1
  have HK2 := Lib.hid hK2
  clear hwB hBB hK0 hK1 hK2 HPFB HCLB HLO
  go_upto_region 2 with fail
  have o0 := HK1.out.cell (i := 0) rfl
  go_upto_block 0 with fail
  clear o0
  go_cut [0, 9, 10] (fun s0 s9 s10 wx => PlR w0 w wx n P S s0 s9 s10)
  case rest =>
    obtain ⟨g2, S2, A2, R2, c2, fa2, fc2, da2, dc2, sa2, sc2, ca2, cc2, pa2, pc2, rfl, rfl, rfl, hb0, hb2, hrf, hpf, hinv, hsim, hadv, hn2⟩ := hcut
    have HRF := Lib.hid hrf
    have HP2 := Lib.hid hpf
    have HI2 := Lib.hid hinv
    have HS2 := Lib.hid hsim
    have HA2 := Lib.hid hadv
    have HB0 := Lib.hid hb0
    have HB2 := Lib.hid hb2
    clear hrf hpf hinv hsim hadv hb0 hb2 HK0 HK1 HK2 HPF HCL HAD HNS
    have HN2 := Lib.hid hn2
    clear hn2
    obtain ⟨x0, x1, x2, x3, x4, x5, x6, x7, -⟩ := (show Blk wc w.heap.size 33 [.int .i64 R2.room, .slice fa2 R2.files.length fc2, .slice da2 R2.dir.length dc2, .slice sa2 R2.sure.length sc2, .slice ca2 R2.changes.length cc2, .int .i64 R2.steps, .int .i64 R2.left, .slice pa2 R2.plan.length pc2] from HB0.out).fs
    obtain ⟨p0, p1, p2, p3, p4, p5, p6, p7, z0, z1, z2, z3, z4, z5, z6, z7⟩ := (show Blk wc (w.heap.size + 2) 33 [.int .i64 0, .slice none 0 0, .slice none 0 0, .slice none 0 0, .slice none 0 0, .int .i64 0, .int .i64 0, .slice none 0 0] from HB2.out).fs
    go_upto_region 46 with fail
    go_region
    clear x0 x1 x2 x3 x4 x5 x6 x7 p0 p1 p2 p3 p4 p5 p6 p7 z0 z1 z2 z3 z4 z5 z6 z7
    go_wp2_with fail
    generalize hG : w.heap.size + 1 + 1 = G
    have hG2 : w.heap.size + 2 = G := hG
    have hBG : Blk wc G 33 [.int .i64 0, .slice none 0 0, .slice none 0 0, .slice none 0 0, .slice none 0 0, .int .i64 0, .int .i64 0, .slice none 0 0] := by rw [← hG2]; exact HB2.out
    obtain ⟨wz, hwz⟩ : ∃ x, x = putFS wc G (.int .i64 R2.room) (.slice fa2 R2.files.length fc2) (.slice da2 R2.dir.length dc2) (.slice sa2 R2.sure.length sc2) (.slice ca2 R2.changes.length cc2) (.int .i64 R2.steps) (.int .i64 R2.left) (.slice pa2 R2.plan.length pc2) := ⟨_, rfl⟩
    have hbz : Below G wc wz := by rw [hwz]; exact putFS_below (Below.refl G wc) (Nat.le_refl G) _ _ _ _ _ _ _ _
    have hkz : Blk wz G 33 [.int .i64 R2.room, .slice fa2 R2.files.length fc2, .slice da2 R2.dir.length dc2, .slice sa2 R2.sure.length sc2, .slice ca2 R2.changes.length cc2, .int .i64 R2.steps, .int .i64 R2.left, .slice pa2 R2.plan.length pc2] := by rw [hwz]; exact putFS_blk hBG _ _ _ _ _ _ _ _
    have hoz : ∀ k, k ≠ G → wz.heap[k]? = wc.heap[k]? := fun k hk => by rw [hwz]; exact putFS_other hk _ _ _ _ _ _ _ _
    have HBZ := Lib.hid hbz
    have HOZ := Lib.hid hoz
    have HKZ := Lib.hid hkz
    clear hbz hoz hkz
    unfold putFS at hwz
    rw [← hwz]
    clear hwz
    obtain ⟨d0, d1, d2, d3, d4, d5, d6, d7, -⟩ := HKZ.out.drew.fs
    have hbz : Below G wc wz.drew := HBZ.out.drew
    have HG := Lib.hid hG2
    clear hbz hBG hG hG2
    refine bodyPost_ret (v := .tuple #[.pointer (some ⟨g2, 0, none⟩), .agg #[.int .i64 R2.room, .slice fa2 R2.files.length fc2, .slice da2 R2.dir.length dc2, .slice sa2 R2.sure.length sc2, .slice ca2 R2.changes.length cc2, .int .i64 R2.steps, .int .i64 R2.left, .slice pa2 R2.plan.length pc2], .bool true]) (by simp [results, Tryz.results13, go_sem, d0, d1, d2, d3, d4, d5, d6, d7]) rfl ⟨g2, S2, A2, R2, _, rfl, ?_, HI2.out, HS2.out, ?_, ?_⟩
    · exact ⟨HP2.out.fs.to (fun _ h => h) fun k hk _ => HOZ.out k (by rintro rfl; have := HG.out; exact HN2.out (this ▸ hk)), fun k hk => ⟨(HP2.out.lo k hk).1, Nat.lt_of_lt_of_le (HP2.out.lo k hk).2 HBZ.out.size⟩, HP2.out.base.trans (show Below w0.heap.size wc wz.drew from (HBZ.out.mono (show w0.heap.size ≤ G by have := HW0.out; have := HG.out; omega)).drew)⟩
    · exact (HRF.out.to fun k hk => HOZ.out k (by have := HG.out; rcases hk.2 with h | h <;> omega)).mono fun k hk => ⟨hk.1, hk.2.imp (fun h => h.2) (fun h => by omega)⟩
    · exact ⟨⟨HBZ.out.os.trans HA2.out.keep.os, HBZ.out.tape.trans HA2.out.keep.tape, HBZ.out.output.trans HA2.out.keep.output, Nat.le_trans HA2.out.keep.size HBZ.out.size, fun k hk hS => (HOZ.out k (by have := HG.out; omega)).trans (HA2.out.keep.block k hk hS)⟩, HA2.out.more⟩
  case first =>
    have o1 := HK1.out.cell (i := 1) rfl
    have o2 := HK1.out.cell (i := 2) rfl
    have o3 := HK1.out.cell (i := 3) rfl
    have o4 := HK1.out.cell (i := 4) rfl
    have o5 := HK1.out.cell (i := 5) rfl
    by_cases hk1 : kind = 1
    · subst hk1
      have href := fun (S1 : Nat → Prop) (w1 : World) (hr : RFs (cls w P S1) w1 (.agg #[.int .i64 R.room, .slice fa R.files.length fc, .slice da R.dir.length dc, .slice sa R.sure.length sc, .slice ca R.changes.length cc, .int .i64 R.steps, .int .i64 R.left, .slice pa R.plan.length pc]) R) => refCreate_any (P := cls w P S1) _ R nm w1 hr HROK.out HRST.out HRFL.out hnz
      have HP := Lib.hid (create_pf nm HPF.out HI.out (by have := HNN.out; omega) hnz)
      go_wp2_with fail
      refine HP.out.mono ?_; rintro e w1 ⟨b, hfb, S1, rfl, hpf1, hadv1⟩
      clear HP
      have hsim := sim_create HS.out HI.out nm hfb
      have hinv := inv_create HI.out nm b
      generalize createA A nm b = Y at hsim hinv hpf1
      generalize createR R nm = Z at hsim href
      obtain ⟨Y1, Y2⟩ := Y
      obtain ⟨⟨room2, files2, dir2, sure2, changes2, steps2, left2, plan2⟩, Z2⟩ := Z
      simp only at hsim hinv hpf1 href
      obtain ⟨hsim, rfl⟩ := hsim
      have HSIM := Lib.hid hsim
      have HINV := Lib.hid hinv
      clear hsim hinv hfb
      have hk0 := hadv1.blk HK0.out HNS.out.1
      have hk1 := hadv1.blk HK1.out HNS.out.2.1
      have hk2 := hadv1.blk HK2.out HNS.out.2.2
      have hcl1 := cls_adv hadv1 HCL.out
      have HAD1 := Lib.hid (HAD.out.trans hadv1)
      have HPF1 := Lib.hid hpf1
      have HWB1 : Hid (w.heap.size + 3 ≤ w1.heap.size) := Nat.le_trans HWB.out hadv1.keep.size
      have HNS1 := Lib.hid (show ¬ S1 w.heap.size ∧ ¬ S1 (w.heap.size + 1) ∧ ¬ S1 (w.heap.size + 2) from ⟨hk0.2, hk1.2, hk2.2⟩)
      have HREF := Lib.hid (href S1 w1 hcl1)
      clear o1 o2 o3 o4 o5 HK0 HK1 HK2 hadv1 hcl1 hpf1 href
      have HK0 := Lib.hid hk0.1
      have HK1 := Lib.hid hk1.1
      have HK2 := Lib.hid hk2.1
      clear hk0 hk1 hk2
      obtain ⟨x0, x1, x2, x3, x4, x5, x6, x7, -⟩ := HK0.out.fs
      have o1 := HK1.out.cell (i := 1) rfl
      have o2 := HK1.out.cell (i := 2) rfl
      have o3 := HK1.out.cell (i := 3) rfl
      go_wp2_with fail
      refine HREF.out.mono ?_; rintro e w2 ⟨v2, rfl, hr2, hb2⟩
      obtain ⟨fa2, fc2, da2, dc2, sa2, sc2, ca2, cc2, pa2, pc2, cvs2, rfl, -⟩ := hr2.parts
      have hcl2 := cls_ref HPF1.out HWB1.out hr2
      have HCL2 := Lib.hid hcl2
      have HKA := Lib.hid (show Blk w2 w.heap.size 33 _ from (hb2.block _ HK0.out.lt).trans HK0.out)
      have HKC := Lib.hid (show Blk w2 (w.heap.size + 2) 33 zeroC from (hb2.block _ HK2.out.lt).trans HK2.out)
      have HPF2 := Lib.hid (HPF1.out.below hb2)
      have HAD2 := Lib.hid (HAD1.out.trans (Adv.of_below hb2))
      clear hr2 hcl2 hb2 HREF x0 x1 x2 x3 x4 x5 x6 x7 o1 o2 o3
      obtain ⟨x0, x1, x2, x3, x4, x5, x6, x7, y0, y1, y2, y3, y4, y5, y6, y7⟩ := HKA.out.fs
      go_wp2_with fail
      go_meet
      exact PlR.fin HKA.out HKC.out HPF2.out HINV.out HSIM.out HCL2.out HAD2.out HNS1.out.1 HNS1.out.2.2 HW0.out
    by_cases hk2 : kind = 2
    · subst hk2
      have c4 : ∀ A, (wB.alloc A).cell? ⟨w.heap.size + 1, 4, none⟩ = some (.slice oa data.length oc) := fun A => (HK1.out.alloc A).cell rfl
      have HOE := Lib.hid (OwnU.empty wB)
      clear o1 o2 o3 o4 o5
      go_wp2_with (with_reducible refine wpList_append_u8s rfl (.tmp 33) (.tmp 35) rfl wB.heap.size (.slice (some ⟨wB.heap.size, 0, none⟩) 0 0) (.slice oa data.length oc) [] data ?_ HOE.out ?_ HDV.out ?_ ?_ ?_ ?_)
      case refine_1 => rfl
      case refine_2 => rfl
      case refine_3 => exact HPF.out.base.alloc HPF.out.base.size _
      case refine_4 => simp; omega
      case refine_5 => simp
      intro v1 w1 ho1 hg1
      try rw [List.nil_append] at ho1
      obtain ⟨ia, ic, rfl⟩ := OwnU.slice ho1
      have hb1 : Below wB.heap.size wB w1 := ((Below.refl _ _).alloc (Nat.le_refl _) _).grown hg1 (by simp) fun j hj => by cases hj; exact Nat.le_refl _
      have HK01 := Lib.hid (show Blk w1 w.heap.size 33 [.int .i64 R.room, .slice fa R.files.length fc, .slice da R.dir.length dc, .slice sa R.sure.length sc, .slice ca R.changes.length cc, .int .i64 R.steps, .int .i64 R.left, .slice pa R.plan.length pc] from (hb1.block _ HK0.out.lt).trans HK0.out)
      have hk11 := (show Blk w1 (w.heap.size + 1) 39 _ from (hb1.block _ HK1.out.lt).trans HK1.out)
      have o2 := hk11.cell (i := 2) rfl
      have HK11 := Lib.hid hk11
      have HK21 := Lib.hid (show Blk w1 (w.heap.size + 2) 33 zeroC from (hb1.block _ HK2.out.lt).trans HK2.out)
      have HCL1 := Lib.hid (HCL.out.lt.below hb1)
      have hix : ∀ k, (Value.slice ia data.length ic).ownBlock = some k → wB.heap.size ≤ k ∧ k < w1.heap.size ∧ ¬ S k := fun k hk => by
        obtain ⟨cur, hh, hbb⟩ := own_tag ho1 hk
        exact ⟨hbb, (Array.getElem?_eq_some_iff.1 hh).1, fun e => by have := (HPF.out.lo k e).2; omega⟩
      have hsim := sim_append HS.out HI.out nm data
      have hinv := inv_append HI.out nm data
      have hp := append_pf nm (.slice ia data.length ic) data (HPF.out.below hb1) HI.out (by have := HNN.out; omega) hnz (OwnU.bytes ho1) (by omega) (fun x hx => (hix x hx.1).2.2)
      have href := fun (S1 : Nat → Prop) (w2 : World) (hr : RFs (fun k => cls w P S1 k ∧ k < wB.heap.size) w2 (.agg #[.int .i64 R.room, .slice fa R.files.length fc, .slice da R.dir.length dc, .slice sa R.sure.length sc, .slice ca R.changes.length cc, .int .i64 R.steps, .int .i64 R.left, .slice pa R.plan.length pc]) R) => refAppend_any (P := fun k => cls w P S1 k ∧ k < wB.heap.size) _ R nm (strOfNums data) w2 hr HROK.out HRST.out HRW.out HRRM.out HRPL.out hnz (by rw [strOfNums_size]; omega)
      generalize appendA A nm data = Y at hsim hinv hp
      generalize appendR R nm (strOfNums data) = Z at hsim href
      obtain ⟨Y1, Y2⟩ := Y
      obtain ⟨⟨room2, files2, dir2, sure2, changes2, steps2, left2, plan2⟩, Z2⟩ := Z
      simp only at hsim hinv hp href
      obtain ⟨hsim, rfl⟩ := hsim
      have HSIM := Lib.hid hsim
      have HINV := Lib.hid hinv
      have HP := Lib.hid hp
      have HAD1 := Lib.hid (HAD.out.trans (Adv.of_below hb1))
      have HSZ1 : Hid (wB.heap.size ≤ w1.heap.size) := hb1.size
      have HO1 := Lib.hid ho1
      have HIX := Lib.hid hix
      have HRF := Lib.hid href
      clear c4 HOE ho1 hg1 hb1 hix hk11 hsim hinv hp href
      go_wp2_with fail
      refine HP.out.mono ?_; rintro e w2 ⟨S1, rfl, hpf2, hadv2⟩
      have HPF2 := Lib.hid hpf2
      have hk0 := hadv2.blk HK01.out HNS.out.1
      have hk1 := hadv2.blk HK11.out HNS.out.2.1
      have hk2 := hadv2.blk HK21.out HNS.out.2.2
      have HNS1 := Lib.hid (show ¬ S1 w.heap.size ∧ ¬ S1 (w.heap.size + 1) ∧ ¬ S1 (w.heap.size + 2) from ⟨hk0.2, hk1.2, hk2.2⟩)
      have HKA := Lib.hid hk0.1
      have HKB := Lib.hid hk1.1
      have HKC := Lib.hid hk2.1
      have HREF := Lib.hid (HRF.out S1 w2 ((HCL1.out.lt.to fun k hk => (hadv2.block hk.2 hk.1.1.1).1).mono fun k hk => ⟨⟨(hadv2.block hk.2 hk.1.1.1).2, hk.1.1.2⟩, hk.1.2⟩))
      have HAD2 := Lib.hid (HAD1.out.trans hadv2)
      have HSZ2 : Hid (wB.heap.size ≤ w2.heap.size) := Nat.le_trans HSZ1.out hadv2.keep.size
      have ho2 : OwnU wB.heap.size w2 (.slice ia data.length ic) data := ownsRow_to HO1.out fun k _ _ o => (hadv2.block (HIX.out k o).2.1 (HIX.out k o).2.2).1
      have HO2 := Lib.hid ho2
      have HIS : Hid (∀ k, (Value.slice ia data.length ic).ownBlock = some k → ¬ S1 k ∧ w.heap.size + 3 ≤ k ∧ wB.heap.size ≤ k ∧ k < w2.heap.size) := fun k o => ⟨(hadv2.block (HIX.out k o).2.1 (HIX.out k o).2.2).2, by have := (HIX.out k o).1; have := HWB.out; omega, (HIX.out k o).1, Nat.lt_of_lt_of_le (HIX.out k o).2.1 hadv2.keep.size⟩
      have kcv := run_string (bytes_below HDV.out hpf2.base)
      obtain ⟨x0, x1, x2, x3, x4, x5, x6, x7, -⟩ := hk0.1.fs
      have o2' := hk1.1.cell (i := 2) rfl
      have o4' := hk1.1.cell (i := 4) rfl
      clear o2 hpf2 hadv2 hk0 hk1 hk2 ho2 HK0 HK1 HK2 HK01 HK11 HK21 HP HO1 HCL1 HAD1 HNS HCL HAD HPF HRF
      go_wp2_with fail
      refine HREF.out.mono ?_; rintro e w3 ⟨v3, rfl, hr3, hb3⟩
      obtain ⟨fa2, fc2, da2, dc2, sa2, sc2, ca2, cc2, pa2, pc2, cvs2, rfl, -⟩ := hr3.parts
      have hka := (show Blk w3 w.heap.size 33 _ from (hb3.block _ HKA.out.lt).trans HKA.out)
      have hkb := (show Blk w3 (w.heap.size + 1) 39 _ from (hb3.block _ HKB.out.lt).trans HKB.out)
      have hkc := (show Blk w3 (w.heap.size + 2) 33 zeroC from (hb3.block _ HKC.out.lt).trans HKC.out)
      have HPF3 := Lib.hid (HPF2.out.below hb3)
      have HAD3 := Lib.hid (HAD2.out.trans (Adv.of_below hb3))
      have HCL3 := Lib.hid (hr3.mono (Q := fun k => cls w P S1 k ∧ (Value.slice ia data.length ic).ownBlock ≠ some k) fun k hk => by
        rcases hk with hk | hk
        · exact ⟨hk.1, fun e => by have := (HIS.out k e).2.2.1; have := hk.2; omega⟩
        · exact ⟨⟨fun e => by have := (HPF2.out.lo k e).2; omega, .inr (by have := HSZ2.out; have := HWB.out; omega)⟩, fun e => by have := (HIS.out k e).2.2.2; omega⟩)
      have HO3 : Hid (OwnU wB.heap.size w3 (.slice ia data.length ic) data) := ownsRow_to HO2.out fun k _ _ o => hb3.block k (HIS.out k o).2.2.2
      obtain ⟨x0, x1, x2, x3, x4, x5, x6, x7, y0, y1, y2, y3, y4, y5, y6, y7⟩ := hka.fs
      have HKA3 := Lib.hid hka
      have HKB3 := Lib.hid hkb
      have HKC3 := Lib.hid hkc
      clear kcv o2' o4' hr3 hb3 hka hkb hkc HREF HKA HKB HKC HO2 HPF2 HAD2
      go_upto_region 10 with fail
      refine wp_world fun w4 hw4 => ?_
      have hg4 : w3.grownBy w4 (some w.heap.size) := by rw [hw4]; exact grown_put (.int .i64 room2) (.slice fa2 files2.length fc2) (.slice da2 dir2.length dc2) (.slice sa2 sure2.length sc2) (.slice ca2 changes2.length cc2) (.int .i64 steps2) (.int .i64 left2) (.slice pa2 plan2.length pc2)
      have HKA4 : Hid (Blk w4 w.heap.size 33 [.int .i64 room2, .slice fa2 files2.length fc2, .slice da2 dir2.length dc2, .slice sa2 sure2.length sc2, .slice ca2 changes2.length cc2, .int .i64 steps2, .int .i64 left2, .slice pa2 plan2.length pc2]) := by show Blk _ _ _ _; rw [hw4]; exact putFS_blk HKA3.out (.int .i64 room2) (.slice fa2 files2.length fc2) (.slice da2 dir2.length dc2) (.slice sa2 sure2.length sc2) (.slice ca2 changes2.length cc2) (.int .i64 steps2) (.int .i64 left2) (.slice pa2 plan2.length pc2)
      clear hw4
      have HKB4 := Lib.hid (grown_blk HKB3.out hg4 (by simp))
      have HKC4 := Lib.hid (grown_blk HKC3.out hg4 (by simp))
      have HPF4 := Lib.hid (HPF3.out.grown hg4 (fun k e => by cases e; exact ⟨HNS1.out.1, HW0.out⟩))
      have HAD4 := Lib.hid (HAD3.out.grown hg4 (fun k e => by cases e; exact Nat.le_refl _))
      have HCL4 := Lib.hid (grown_rfs HCL3.out hg4 (fun k hk e => by cases e; rcases hk.1.2 with h | h <;> omega))
      have ho4 : OwnU wB.heap.size w4 (.slice ia data.length ic) data := ownsRow_to HO3.out fun k _ e2 o => hg4.block k (Array.getElem?_eq_some_iff.1 e2).1 (fun e => by cases e; have := (HIS.out _ o).2.1; omega)
      clear hg4 x0  x1  x2  x3  x4  x5  x6  x7  y0  y1  y2  y3  y4  y5  y6  y7 HKA3 HKB3 HKC3 HPF3 HAD3 HCL3 HO3
      go_wp2_with fail
      go_loopw [54] (fun s54 wq => ∃ (j : Nat) (ys : List Int), j ≤ data.length ∧ s54 = .int .i64 j ∧ ys.length = data.length ∧ ys.drop j = data.drop j ∧ OwnU wB.heap.size wq (.slice ia data.length ic) ys ∧ w4.grownBy wq (Value.slice ia data.length ic).ownBlock)
        (fun s54 _ => data.length - (intOf s54).toNat)
      case atStart => exact ⟨0, data, Nat.zero_le _, rfl, rfl, rfl, ho4, grown_refl⟩
      case round =>
        clear ho4
        obtain ⟨j, ys, hj, rfl, hyl, hyd, hoy, hgy⟩ := hrel
        by_cases hjt : j < data.length
        · have lj : (j : Int) < data.length := by omega
          have hbs := (HPF4.out.grown hgy (fun k e => ⟨(HIS.out k e).1, by have := (HIS.out k e).2.1; have := HW0.out; omega⟩)).base
          rcases bytes_below HDV.out hbs with ⟨_, h0⟩ | ⟨_, _, h0⟩ | ⟨db, do_, dcap, hdv, _, _, hdc⟩
          · rw [h0] at hjt; simp at hjt
          · rw [h0] at hjt; simp at hjt
          have e2 := hdc j _ (drop_get hyd hjt)
          cases hdv
          have hkB := grown_blk HKB4.out hgy (fun e => by have := (HIS.out _ e).2.1; omega)
          have o4' := hkB.cell (i := 4) rfl
          cases ia with
          | none =>
            rcases hoy.2 with ⟨h0, h1⟩ | ⟨_, _, _, h0, _⟩
            · omega
            · cases h0
          | some ga =>
            obtain ⟨gb, go, gs⟩ := ga
            obtain ⟨g1, g2, g3, g4, g5, g6⟩ := OwnU.cell (by rw [← hyl] at hoy; exact hoy) j (by omega)
            simp only at g1 g2 g3 g4 g5 g6
            subst g1 g2
            have HOY := Lib.hid hoy
            have HDS := Lib.hid (fun y => drop_set hyd y)
            have HGY := Lib.hid hgy
            generalize ys.getD j 0 = yj at e2 g5
            clear hoy hgy g3 g4 hkB hbs hdc hyd
            go_upto_region 13 with fail
            go_quiet (fail)
            generalize hwz : wr.drewN nq = wz
            have hoz : OwnU wB.heap.size wz (.slice (some ⟨gb, 0, none⟩) data.length ic) ys := by rw [← hwz]; exact HOY.out
            have HGZ : Hid (w4.grownBy wz (some gb)) := by rw [← hwz]; exact ⟨HGY.out.os, HGY.out.tape, HGY.out.output, HGY.out.size, HGY.out.block⟩
            have g5' : wz.cell? ⟨gb, j, none⟩ = some (.int .u8 yj) := by rw [← hwz]; exact g5
            have g6' : wz.frozen? ⟨gb, j, none⟩ = false := by rw [← hwz]; exact g6
            have HSET := Lib.hid (fun y => OwnU.set hoz j y)
            clear hwz hoz HOY HGY g5 g6 e2 o4'
            go_wp2_with fail
            go_roundw
            case rel => exact ⟨j + 1, _, by omega, by go_num, by rw [List.length_set]; exact hyl, HDS.out _, HSET.out _, grown_set HGZ.out⟩
            case measure => simp [intOf]; omega
        · have lj : ¬ ((j : Int) < data.length) := by omega
          have HKA5 := Lib.hid (grown_blk HKA4.out hgy (fun e => by have := (HIS.out _ e).2.1; omega))
          have HKC5 := Lib.hid (grown_blk HKC4.out hgy (fun e => by have := (HIS.out _ e).2.1; omega))
          have HPF5 := Lib.hid (HPF4.out.grown hgy (fun k e => ⟨(HIS.out k e).1, by have := (HIS.out k e).2.1; have := HW0.out; omega⟩))
          have HAD5 := Lib.hid (HAD4.out.grown hgy (fun k e => by have := (HIS.out k e).2.1; omega))
          have HCL5 := Lib.hid ((grown_rfs HCL4.out hgy (fun k hk => hk.2)).mono (Q := cls w P S1) fun k hk => hk.1)
          clear hoy hgy hyd
          go_wp2_with fail
          go_meet
          exact ⟨g, S1, Y1, ⟨room2, files2, dir2, sure2, changes2, steps2, left2, plan2⟩, _, fa2, fc2, da2, dc2, sa2, sc2, ca2, cc2, pa2, pc2, rfl, rfl, rfl, HKA5.out, HKC5.out, HCL5.out, HPF5.out, HINV.out, HSIM.out, HAD5.out, HNS1.out.2.2⟩
    by_cases hk3 : kind = 3
    · subst hk3
      have hsim := sim_sync HS.out HI.out nm
      have hinv := inv_sync HI.out nm
      have hp := sync_pf nm HPF.out HI.out (by have := HNN.out; omega) hnz
      have href := fun (S1 : Nat → Prop) (w1 : World) (hr : RFs (cls w P S1) w1 (.agg #[.int .i64 R.room, .slice fa R.files.length fc, .slice da R.dir.length dc, .slice sa R.sure.length sc, .slice ca R.changes.length cc, .int .i64 R.steps, .int .i64 R.left, .slice pa R.plan.length pc]) R) => refSync_any (P := cls w P S1) _ R nm w1 hr HROK.out HRST.out HRW.out hnz
      generalize syncA A nm = Y at hsim hinv hp
      generalize syncR R nm = Z at hsim href
      obtain ⟨Y1, Y2⟩ := Y
      obtain ⟨⟨room2, files2, dir2, sure2, changes2, steps2, left2, plan2⟩, Z2⟩ := Z
      simp only at hsim hinv hp href
      obtain ⟨hsim, rfl⟩ := hsim
      have HSIM := Lib.hid hsim
      have HINV := Lib.hid hinv
      have HP := Lib.hid hp
      clear hsim hinv hp
      go_wp2_with fail
      refine HP.out.mono ?_; rintro e w1 ⟨S1, rfl, hpf1, hadv1⟩
      clear HP
      have hk0 := hadv1.blk HK0.out HNS.out.1
      have hk1 := hadv1.blk HK1.out HNS.out.2.1
      have hk2 := hadv1.blk HK2.out HNS.out.2.2
      have hcl1 := cls_adv hadv1 HCL.out
      have HAD1 := Lib.hid (HAD.out.trans hadv1)
      have HPF1 := Lib.hid hpf1
      have HWB1 : Hid (w.heap.size + 3 ≤ w1.heap.size) := Nat.le_trans HWB.out hadv1.keep.size
      have HNS1 := Lib.hid (show ¬ S1 w.heap.size ∧ ¬ S1 (w.heap.size + 1) ∧ ¬ S1 (w.heap.size + 2) from ⟨hk0.2, hk1.2, hk2.2⟩)
      have HREF := Lib.hid (href S1 w1 hcl1)
      clear o1 o2 o3 o4 o5 HK0 HK1 HK2 hadv1 hcl1 hpf1 href
      have HK0 := Lib.hid hk0.1
      have HK1 := Lib.hid hk1.1
      have HK2 := Lib.hid hk2.1
      clear hk0 hk1 hk2
      obtain ⟨x0, x1, x2, x3, x4, x5, x6, x7, -⟩ := HK0.out.fs
      have o1 := HK1.out.cell (i := 1) rfl
      have o2 := HK1.out.cell (i := 2) rfl
      have o3 := HK1.out.cell (i := 3) rfl
      go_wp2_with fail
      refine HREF.out.mono ?_; rintro e w2 ⟨v2, rfl, hr2, hb2⟩
      obtain ⟨fa2, fc2, da2, dc2, sa2, sc2, ca2, cc2, pa2, pc2, cvs2, rfl, -⟩ := hr2.parts
      have hcl2 := cls_ref HPF1.out HWB1.out hr2
      have HCL2 := Lib.hid hcl2
      have HKA := Lib.hid (show Blk w2 w.heap.size 33 _ from (hb2.block _ HK0.out.lt).trans HK0.out)
      have HKC := Lib.hid (show Blk w2 (w.heap.size + 2) 33 zeroC from (hb2.block _ HK2.out.lt).trans HK2.out)
      have HPF2 := Lib.hid (HPF1.out.below hb2)
      have HAD2 := Lib.hid (HAD1.out.trans (Adv.of_below hb2))
      clear hr2 hcl2 hb2 HREF x0 x1 x2 x3 x4 x5 x6 x7 o1 o2 o3
      obtain ⟨x0, x1, x2, x3, x4, x5, x6, x7, y0, y1, y2, y3, y4, y5, y6, y7⟩ := HKA.out.fs
      go_wp2_with fail
      go_meet
      exact PlR.fin HKA.out HKC.out HPF2.out HINV.out HSIM.out HCL2.out HAD2.out HNS1.out.1 HNS1.out.2.2 HW0.out
    by_cases hk4 : kind = 4
    · subst hk4
      have hsim := sim_dir HS.out HI.out
      have hinv := inv_dir HI.out
      have hp := dir_pf HPF.out HI.out (by have := HNN.out; omega)
      have href := fun (S1 : Nat → Prop) (w1 : World) (hr : RFs (cls w P S1) w1 (.agg #[.int .i64 R.room, .slice fa R.files.length fc, .slice da R.dir.length dc, .slice sa R.sure.length sc, .slice ca R.changes.length cc, .int .i64 R.steps, .int .i64 R.left, .slice pa R.plan.length pc]) R) => refSyncDir_any (P := cls w P S1) _ R w1 hr HROK.out
      generalize dirA A = Y at hsim hinv hp
      generalize syncDirR R = Z at hsim href
      obtain ⟨Y1, Y2⟩ := Y
      obtain ⟨⟨room2, files2, dir2, sure2, changes2, steps2, left2, plan2⟩, Z2⟩ := Z
      simp only at hsim hinv hp href
      obtain ⟨hsim, rfl⟩ := hsim
      have HSIM := Lib.hid hsim
      have HINV := Lib.hid hinv
      have HP := Lib.hid hp
      clear hsim hinv hp
      go_wp2_with fail
      refine HP.out.mono ?_; rintro e w1 ⟨S1, rfl, hpf1, hadv1⟩
      clear HP
      have hk0 := hadv1.blk HK0.out HNS.out.1
      have hk1 := hadv1.blk HK1.out HNS.out.2.1
      have hk2 := hadv1.blk HK2.out HNS.out.2.2
      have hcl1 := cls_adv hadv1 HCL.out
      have HAD1 := Lib.hid (HAD.out.trans hadv1)
      have HPF1 := Lib.hid hpf1
      have HWB1 : Hid (w.heap.size + 3 ≤ w1.heap.size) := Nat.le_trans HWB.out hadv1.keep.size
      have HNS1 := Lib.hid (show ¬ S1 w.heap.size ∧ ¬ S1 (w.heap.size + 1) ∧ ¬ S1 (w.heap.size + 2) from ⟨hk0.2, hk1.2, hk2.2⟩)
      have HREF := Lib.hid (href S1 w1 hcl1)
      clear o1 o2 o3 o4 o5 HK0 HK1 HK2 hadv1 hcl1 hpf1 href
      have HK0 := Lib.hid hk0.1
      have HK1 := Lib.hid hk1.1
      have HK2 := Lib.hid hk2.1
      clear hk0 hk1 hk2
      obtain ⟨x0, x1, x2, x3, x4, x5, x6, x7, -⟩ := HK0.out.fs
      have o1 := HK1.out.cell (i := 1) rfl
      have o2 := HK1.out.cell (i := 2) rfl
      have o3 := HK1.out.cell (i := 3) rfl
      go_wp2_with fail
      refine HREF.out.mono ?_; rintro e w2 ⟨v2, rfl, hr2, hb2⟩
      obtain ⟨fa2, fc2, da2, dc2, sa2, sc2, ca2, cc2, pa2, pc2, cvs2, rfl, -⟩ := hr2.parts
      have hcl2 := hr2
      have HCL2 := Lib.hid hcl2
      have HKA := Lib.hid (show Blk w2 w.heap.size 33 _ from (hb2.block _ HK0.out.lt).trans HK0.out)
      have HKC := Lib.hid (show Blk w2 (w.heap.size + 2) 33 zeroC from (hb2.block _ HK2.out.lt).trans HK2.out)
      have HPF2 := Lib.hid (HPF1.out.below hb2)
      have HAD2 := Lib.hid (HAD1.out.trans (Adv.of_below hb2))
      clear hr2 hcl2 hb2 HREF x0 x1 x2 x3 x4 x5 x6 x7 o1 o2 o3
      obtain ⟨x0, x1, x2, x3, x4, x5, x6, x7, y0, y1, y2, y3, y4, y5, y6, y7⟩ := HKA.out.fs
      go_wp2_with fail
      go_meet
      exact PlR.fin HKA.out HKC.out HPF2.out HINV.out HSIM.out HCL2.out HAD2.out HNS1.out.1 HNS1.out.2.2 HW0.out
    by_cases hk5 : kind = 5
    · subst hk5
      have hsim := sim_rename HS.out HI.out nm ds
      have hinv := inv_rename HI.out nm ds
      have hp := rename_pf nm ds HPF.out HI.out (by have := HNN.out; omega) hnz hdz
      have href := fun (S1 : Nat → Prop) (w1 : World) (hr : RFs (cls w P S1) w1 (.agg #[.int .i64 R.room, .slice fa R.files.length fc, .slice da R.dir.length dc, .slice sa R.sure.length sc, .slice ca R.changes.length cc, .int .i64 R.steps, .int .i64 R.left, .slice pa R.plan.length pc]) R) => refRename_any (P := cls w P S1) _ R nm ds w1 hr HROK.out HRST.out hnz hdz
      generalize renameA A nm ds = Y at hsim hinv hp
      generalize renameR R nm ds = Z at hsim href
      obtain ⟨Y1, Y2⟩ := Y
      obtain ⟨⟨room2, files2, dir2, sure2, changes2, steps2, left2, plan2⟩, Z2⟩ := Z
      simp only at hsim hinv hp href
      obtain ⟨hsim, rfl⟩ := hsim
      have HSIM := Lib.hid hsim
      have HINV := Lib.hid hinv
      have HP := Lib.hid hp
      clear hsim hinv hp
      go_wp2_with fail
      refine HP.out.mono ?_; rintro e w1 ⟨S1, rfl, hpf1, hadv1⟩
      clear HP
      have hk0 := hadv1.blk HK0.out HNS.out.1
      have hk1 := hadv1.blk HK1.out HNS.out.2.1
      have hk2 := hadv1.blk HK2.out HNS.out.2.2
      have hcl1 := cls_adv hadv1 HCL.out
      have HAD1 := Lib.hid (HAD.out.trans hadv1)
      have HPF1 := Lib.hid hpf1
      have HWB1 : Hid (w.heap.size + 3 ≤ w1.heap.size) := Nat.le_trans HWB.out hadv1.keep.size
      have HNS1 := Lib.hid (show ¬ S1 w.heap.size ∧ ¬ S1 (w.heap.size + 1) ∧ ¬ S1 (w.heap.size + 2) from ⟨hk0.2, hk1.2, hk2.2⟩)
      have HREF := Lib.hid (href S1 w1 hcl1)
      clear o1 o2 o3 o4 o5 HK0 HK1 HK2 hadv1 hcl1 hpf1 href
      have HK0 := Lib.hid hk0.1
      have HK1 := Lib.hid hk1.1
      have HK2 := Lib.hid hk2.1
      clear hk0 hk1 hk2
      obtain ⟨x0, x1, x2, x3, x4, x5, x6, x7, -⟩ := HK0.out.fs
      have o1 := HK1.out.cell (i := 1) rfl
      have o2 := HK1.out.cell (i := 2) rfl
      have o3 := HK1.out.cell (i := 3) rfl
      go_wp2_with fail
      refine HREF.out.mono ?_; rintro e w2 ⟨v2, rfl, hr2, hb2⟩
      obtain ⟨fa2, fc2, da2, dc2, sa2, sc2, ca2, cc2, pa2, pc2, cvs2, rfl, -⟩ := hr2.parts
      have hcl2 := cls_ref HPF1.out HWB1.out hr2
      have HCL2 := Lib.hid hcl2
      have HKA := Lib.hid (show Blk w2 w.heap.size 33 _ from (hb2.block _ HK0.out.lt).trans HK0.out)
      have HKC := Lib.hid (show Blk w2 (w.heap.size + 2) 33 zeroC from (hb2.block _ HK2.out.lt).trans HK2.out)
      have HPF2 := Lib.hid (HPF1.out.below hb2)
      have HAD2 := Lib.hid (HAD1.out.trans (Adv.of_below hb2))
      clear hr2 hcl2 hb2 HREF x0 x1 x2 x3 x4 x5 x6 x7 o1 o2 o3
      obtain ⟨x0, x1, x2, x3, x4, x5, x6, x7, y0, y1, y2, y3, y4, y5, y6, y7⟩ := HKA.out.fs
      go_wp2_with fail
      go_meet
      exact PlR.fin HKA.out HKC.out HPF2.out HINV.out HSIM.out HCL2.out HAD2.out HNS1.out.1 HNS1.out.2.2 HW0.out
    by_cases hk6 : kind = 6
    · subst hk6
      have hsim := sim_remove HS.out HI.out nm
      have hinv := inv_remove HI.out nm
      have hp := remove_pf nm HPF.out HI.out (by have := HNN.out; omega) hnz
      have href := fun (S1 : Nat → Prop) (w1 : World) (hr : RFs (cls w P S1) w1 (.agg #[.int .i64 R.room, .slice fa R.files.length fc, .slice da R.dir.length dc, .slice sa R.sure.length sc, .slice ca R.changes.length cc, .int .i64 R.steps, .int .i64 R.left, .slice pa R.plan.length pc]) R) => refRemove_any (P := cls w P S1) _ R nm w1 hr HROK.out HRST.out hnz
      generalize removeA A nm = Y at hsim hinv hp
      generalize removeR R nm = Z at hsim href
      obtain ⟨Y1, Y2⟩ := Y
      obtain ⟨⟨room2, files2, dir2, sure2, changes2, steps2, left2, plan2⟩, Z2⟩ := Z
      simp only at hsim hinv hp href
      obtain ⟨hsim, rfl⟩ := hsim
      have HSIM := Lib.hid hsim
      have HINV := Lib.hid hinv
      have HP := Lib.hid hp
      clear hsim hinv hp
      go_wp2_with fail
      refine HP.out.mono ?_; rintro e w1 ⟨S1, rfl, hpf1, hadv1⟩
      clear HP
      have hk0 := hadv1.blk HK0.out HNS.out.1
      have hk1 := hadv1.blk HK1.out HNS.out.2.1
      have hk2 := hadv1.blk HK2.out HNS.out.2.2
      have hcl1 := cls_adv hadv1 HCL.out
      have HAD1 := Lib.hid (HAD.out.trans hadv1)
      have HPF1 := Lib.hid hpf1
      have HWB1 : Hid (w.heap.size + 3 ≤ w1.heap.size) := Nat.le_trans HWB.out hadv1.keep.size
      have HNS1 := Lib.hid (show ¬ S1 w.heap.size ∧ ¬ S1 (w.heap.size + 1) ∧ ¬ S1 (w.heap.size + 2) from ⟨hk0.2, hk1.2, hk2.2⟩)
      have HREF := Lib.hid (href S1 w1 hcl1)
      clear o1 o2 o3 o4 o5 HK0 HK1 HK2 hadv1 hcl1 hpf1 href
      have HK0 := Lib.hid hk0.1
      have HK1 := Lib.hid hk1.1
      have HK2 := Lib.hid hk2.1
      clear hk0 hk1 hk2
      obtain ⟨x0, x1, x2, x3, x4, x5, x6, x7, -⟩ := HK0.out.fs
      have o1 := HK1.out.cell (i := 1) rfl
      have o2 := HK1.out.cell (i := 2) rfl
      have o3 := HK1.out.cell (i := 3) rfl
      go_wp2_with fail
      refine HREF.out.mono ?_; rintro e w2 ⟨v2, rfl, hr2, hb2⟩
      obtain ⟨fa2, fc2, da2, dc2, sa2, sc2, ca2, cc2, pa2, pc2, cvs2, rfl, -⟩ := hr2.parts
      have hcl2 := cls_ref HPF1.out HWB1.out hr2
      have HCL2 := Lib.hid hcl2
      have HKA := Lib.hid (show Blk w2 w.heap.size 33 _ from (hb2.block _ HK0.out.lt).trans HK0.out)
      have HKC := Lib.hid (show Blk w2 (w.heap.size + 2) 33 zeroC from (hb2.block _ HK2.out.lt).trans HK2.out)
      have HPF2 := Lib.hid (HPF1.out.below hb2)
      have HAD2 := Lib.hid (HAD1.out.trans (Adv.of_below hb2))
      clear hr2 hcl2 hb2 HREF x0 x1 x2 x3 x4 x5 x6 x7 o1 o2 o3
      obtain ⟨x0, x1, x2, x3, x4, x5, x6, x7, y0, y1, y2, y3, y4, y5, y6, y7⟩ := HKA.out.fs
      go_wp2_with fail
      go_meet
      exact PlR.fin HKA.out HKC.out HPF2.out HINV.out HSIM.out HCL2.out HAD2.out HNS1.out.1 HNS1.out.2.2 HW0.out
    by_cases hk7 : kind = 7
    · subst hk7
      have hsim := sim_arm HS.out N
      have hinv := inv_arm HI.out N hnk
      have hp := fun (W : World) (hW : Below wB.heap.size wB W) => arm_pf N (HPF.out.below hW)
      have href := fun (S1 : Nat → Prop) (w1 : World) (hr : RFs (cls w P S1) w1 (.agg #[.int .i64 R.room, .slice fa R.files.length fc, .slice da R.dir.length dc, .slice sa R.sure.length sc, .slice ca R.changes.length cc, .int .i64 R.steps, .int .i64 R.left, .slice pa R.plan.length pc]) R) => refArm_any (P := cls w P S1) _ R N w1 hr
      generalize armA A N = Y at hsim hinv hp
      generalize armR R N = Z at hsim href
      obtain ⟨Y1, Y2⟩ := Y
      obtain ⟨⟨room2, files2, dir2, sure2, changes2, steps2, left2, plan2⟩, Z2⟩ := Z
      simp only at hsim hinv hp href
      obtain ⟨hsim, rfl⟩ := hsim
      have HSIM := Lib.hid hsim
      have HINV := Lib.hid hinv
      have HP := Lib.hid hp
      clear hsim hinv hp
      go_upto_region 30 with fail
      refine wp_region_quiet_tail 5 (by kernel_rfl) (by kernel_rfl) ?_
      simp only [List.take_succ_cons, List.take_zero, List.drop_succ_cons, List.drop_zero]
      repeat (go_big_quiet_step (fail))
      refine wpQuiet_nil ?_
      intro nq
      go_wp2_with fail
      have hbq := Below.drewN (Below.refl wB.heap.size wB) nq
      refine (HP.out _ hbq).mono ?_; rintro e w1 ⟨S1, rfl, hpf1, hadv0⟩
      have hadv1 : Adv S S1 wB w1 := (Adv.of_below hbq).trans hadv0
      clear HP hadv0 hbq
      have hk0 := hadv1.blk HK0.out HNS.out.1
      have hk1 := hadv1.blk HK1.out HNS.out.2.1
      have hk2 := hadv1.blk HK2.out HNS.out.2.2
      have hcl1 := cls_adv hadv1 HCL.out
      have HAD1 := Lib.hid (HAD.out.trans hadv1)
      have HPF1 := Lib.hid hpf1
      have HWB1 : Hid (w.heap.size + 3 ≤ w1.heap.size) := Nat.le_trans HWB.out hadv1.keep.size
      have HNS1 := Lib.hid (show ¬ S1 w.heap.size ∧ ¬ S1 (w.heap.size + 1) ∧ ¬ S1 (w.heap.size + 2) from ⟨hk0.2, hk1.2, hk2.2⟩)
      have HREF := Lib.hid (href S1 w1 hcl1)
      clear o1 o2 o3 o4 o5 HK0 HK1 HK2 hadv1 hcl1 hpf1 href
      have HK0 := Lib.hid hk0.1
      have HK1 := Lib.hid hk1.1
      have HK2 := Lib.hid hk2.1
      clear hk0 hk1 hk2
      obtain ⟨x0, x1, x2, x3, x4, x5, x6, x7, -⟩ := HK0.out.fs
      have o1 := HK1.out.cell (i := 1) rfl
      have o2 := HK1.out.cell (i := 2) rfl
      have o3 := HK1.out.cell (i := 3) rfl
      go_wp2_with fail
      refine HREF.out.mono ?_; rintro e w2 ⟨v2, rfl, hr2, hb2⟩
      obtain ⟨fa2, fc2, da2, dc2, sa2, sc2, ca2, cc2, pa2, pc2, cvs2, rfl, -⟩ := hr2.parts
      have hcl2 := (hr2.below hb2)
      have HCL2 := Lib.hid hcl2
      have HKA := Lib.hid (show Blk w2 w.heap.size 33 _ from (hb2.block _ HK0.out.lt).trans HK0.out)
      have HKC := Lib.hid (show Blk w2 (w.heap.size + 2) 33 zeroC from (hb2.block _ HK2.out.lt).trans HK2.out)
      have HPF2 := Lib.hid (HPF1.out.below hb2)
      have HAD2 := Lib.hid (HAD1.out.trans (Adv.of_below hb2))
      clear hr2 hcl2 hb2 HREF x0 x1 x2 x3 x4 x5 x6 x7 o1 o2 o3
      obtain ⟨x0, x1, x2, x3, x4, x5, x6, x7, y0, y1, y2, y3, y4, y5, y6, y7⟩ := HKA.out.fs
      go_wp2_with fail
      go_meet
      exact PlR.fin HKA.out HKC.out HPF2.out HINV.out HSIM.out HCL2.out HAD2.out HNS1.out.1 HNS1.out.2.2 HW0.out
    by_cases hk8 : kind = 8
    · subst hk8
      have c5 : ∀ A, (wB.alloc A).cell? ⟨w.heap.size + 1, 5, none⟩ = some (.slice la l.length lc) := fun A => (HK1.out.alloc A).cell rfl
      have HLVB := Lib.hid (HLV.out.below HPF.out.base)
      have HOE := Lib.hid (OwnI.empty wB)
      clear o1 o2 o3 o4 o5
      go_wp2_with (with_reducible refine wpList_append_ints rfl (.tmp 145) (.tmp 147) rfl wB.heap.size (.slice (some ⟨wB.heap.size, 0, none⟩) 0 0) (.slice la l.length lc) [] l ?_ HOE.out ?_ HLVB.out ?_ ?_ ?_ ?_)
      case refine_1 => rfl
      case refine_2 => rfl
      case refine_3 => exact (Below.refl _ _).alloc (Nat.le_refl _) _
      case refine_4 => simp; omega
      case refine_5 => simp
      intro v1 w1 ho1 hg1
      try rw [List.nil_append] at ho1
      obtain ⟨ia, ic, rfl⟩ := OwnI.slice ho1
      have hb1 : Below wB.heap.size wB w1 := ((Below.refl _ _).alloc (Nat.le_refl _) _).grown hg1 (by simp) fun j hj => by cases hj; exact Nat.le_refl _
      have HK01 := Lib.hid (show Blk w1 w.heap.size 33 [.int .i64 R.room, .slice fa R.files.length fc, .slice da R.dir.length dc, .slice sa R.sure.length sc, .slice ca R.changes.length cc, .int .i64 R.steps, .int .i64 R.left, .slice pa R.plan.length pc] from (hb1.block _ HK0.out.lt).trans HK0.out)
      have HK11 := Lib.hid (show Blk w1 (w.heap.size + 1) 39 _ from (hb1.block _ HK1.out.lt).trans HK1.out)
      have HK21 := Lib.hid (show Blk w1 (w.heap.size + 2) 33 zeroC from (hb1.block _ HK2.out.lt).trans HK2.out)
      have HCL1 := Lib.hid (HCL.out.lt.below hb1)
      have HPL := Lib.hid (plan_pf (.slice ia l.length ic) l (HPF.out.below hb1) (OwnI.ints ho1) (by omega))
      have HAD1 := Lib.hid (HAD.out.trans (Adv.of_below hb1))
      have HSZ1 : Hid (wB.heap.size ≤ w1.heap.size) := hb1.size
      have hix : ∀ k, (Value.slice ia l.length ic).ownBlock = some k → wB.heap.size ≤ k ∧ k < w1.heap.size ∧ ¬ S k := fun k hk => by
        obtain ⟨cur, hh, hbb⟩ := own_tag ho1 hk
        exact ⟨hbb, (Array.getElem?_eq_some_iff.1 hh).1, fun e => by have := (HPF.out.lo k e).2; omega⟩
      have HO1 := Lib.hid ho1
      have HIX := Lib.hid hix
      clear c5 HOE ho1 hg1 hb1 hix
      go_wp2_with fail
      refine HPL.out.mono ?_; rintro e w2 ⟨S1, rfl, hpf2, hadv2⟩
      have HPF2 := Lib.hid hpf2
      have hk0 := hadv2.blk HK01.out HNS.out.1
      have hk1 := hadv2.blk HK11.out HNS.out.2.1
      have hk2 := hadv2.blk HK21.out HNS.out.2.2
      have HNS1 := Lib.hid (show ¬ S1 w.heap.size ∧ ¬ S1 (w.heap.size + 1) ∧ ¬ S1 (w.heap.size + 2) from ⟨hk0.2, hk1.2, hk2.2⟩)
      have HKA := Lib.hid hk0.1
      have HKB := Lib.hid hk1.1
      have HKC := Lib.hid hk2.1
      have HCL2 : Hid (RFs (fun k => cls w P S1 k ∧ k < wB.heap.size) w2 (.agg #[.int .i64 R.room, .slice fa R.files.length fc, .slice da R.dir.length dc, .slice sa R.sure.length sc, .slice ca R.changes.length cc, .int .i64 R.steps, .int .i64 R.left, .slice pa R.plan.length pc]) R) := (HCL1.out.lt.to fun k hk => (hadv2.block hk.2 hk.1.1.1).1).mono fun k hk => ⟨⟨(hadv2.block hk.2 hk.1.1.1).2, hk.1.1.2⟩, hk.1.2⟩
      have HAD2 := Lib.hid (HAD1.out.trans hadv2)
      have HSZ2 : Hid (wB.heap.size ≤ w2.heap.size ∧ ∀ k, (Value.slice ia l.length ic).ownBlock = some k → wB.heap.size ≤ k) := ⟨Nat.le_trans (by have := HAD1.out; exact HSZ1.out) hadv2.keep.size, fun k o => (HIX.out k o).1⟩
      have ho2 : OwnI wB.heap.size w2 (.slice ia l.length ic) l := ownsRow_to HO1.out fun k _ _ o => (hadv2.block (HIX.out k o).2.1 (HIX.out k o).2.2).1
      have HIS : Hid (∀ k, (Value.slice ia l.length ic).ownBlock = some k → ¬ S1 k ∧ w.heap.size + 3 ≤ k) := fun k o => ⟨(hadv2.block (HIX.out k o).2.1 (HIX.out k o).2.2).2, by have := (HIX.out k o).1; have := HWB.out; omega⟩
      clear hpf2 hadv2 hk0 hk1 hk2 HK0 HK1 HK2 HK01 HK11 HK21 HPL HO1 HCL1 HAD1 HNS HCL HAD HPF
      go_wp2_with fail
      go_loopw [156] (fun s156 wq => ∃ (j : Nat) (ys : List Int), j ≤ l.length ∧ s156 = .int .i64 j ∧ ys.length = l.length ∧ OwnI wB.heap.size wq (.slice ia l.length ic) ys ∧ w2.grownBy wq (Value.slice ia l.length ic).ownBlock)
        (fun s156 _ => l.length - (intOf s156).toNat)
      case atStart => exact ⟨0, l, Nat.zero_le _, rfl, rfl, ho2, grown_refl⟩
      case round =>
        clear ho2
        obtain ⟨j, ys, hj, rfl, hyl, hoy, hgy⟩ := hrel
        by_cases hjt : j < l.length
        · have lj : (j : Int) < l.length := by omega
          cases ia with
          | none =>
            rcases hoy.2 with ⟨h0, h1⟩ | ⟨_, _, _, h0, _⟩
            · omega
            · cases h0
          | some ga =>
            obtain ⟨gb, go, gs⟩ := ga
            obtain ⟨g1, g2, g3, g4, g5, g6⟩ := OwnI.cell (by rw [← hyl] at hoy; exact hoy) j (by omega)
            simp only at g1 g2 g3 g4 g5 g6
            subst g1 g2
            have HSET := Lib.hid (fun y => OwnI.set hoy j y)
            have HGY := Lib.hid hgy
            clear hoy hgy g3 g4
            go_wp2_with fail
            go_roundw
            case rel => exact ⟨j + 1, _, by omega, by go_num, by rw [List.length_set]; exact hyl, HSET.out _, grown_set HGY.out⟩
            case measure => simp [intOf]; omega
        · have lj : ¬ ((j : Int) < l.length) := by omega
          have HCL3 : Hid (RFs (fun k => cls w P S1 k ∧ k < wB.heap.size) wr (.agg #[.int .i64 R.room, .slice fa R.files.length fc, .slice da R.dir.length dc, .slice sa R.sure.length sc, .slice ca R.changes.length cc, .int .i64 R.steps, .int .i64 R.left, .slice pa R.plan.length pc]) R) := grown_rfs HCL2.out hgy (fun k hk e => by have := HSZ2.out.2 k e; omega)
          have hkA := grown_blk HKA.out hgy (fun e => by have := (HIS.out _ e).2; omega)
          have hkB := grown_blk HKB.out hgy (fun e => by have := (HIS.out _ e).2; omega)
          have HKE := Lib.hid (grown_blk HKC.out hgy (fun e => by have := (HIS.out _ e).2; omega))
          have HPF3 := Lib.hid (HPF2.out.grown hgy (fun k e => ⟨(HIS.out k e).1, by have := (HIS.out k e).2; have := HW0.out; omega⟩))
          have HAD3 := Lib.hid (HAD2.out.grown hgy (fun k e => by have := (HIS.out k e).2; omega))
          have HGY := Lib.hid hgy
          have f7 := hkA.frozen 7
          have c7 := hkA.cell (i := 7) rfl
          have c5 := hkB.cell (i := 5) rfl
          have HSE := Lib.hid (hkA.set 7 (.slice la l.length lc))
          clear hoy hgy hkA hkB
          go_wp2_with fail
          go_meet
          have hgS : wr.grownBy (wr.setCell ⟨w.heap.size, 7, none⟩ (.slice la l.length lc)) (some w.heap.size) := grown_set grown_refl
          have hpf := HPF3.out.grown hgS (fun k e => by cases e; exact ⟨HNS1.out.1, HW0.out⟩)
          have hrp : RPlan (wr.setCell ⟨w.heap.size, 7, none⟩ (.slice la l.length lc)) (.slice la l.length lc) l := HLV.out.below hpf.base
          refine ⟨g, S1, { A with plan := l }, { R with plan := l }, 0, fa, fc, da, dc, sa, sc, ca, cc, la, lc, rfl, rfl, rfl, HSE.out, HKE.out.set_other (a := ⟨w.heap.size, 7, none⟩) (show w.heap.size + 2 ≠ w.heap.size by omega) _, ?_, hpf, inv_plan HI.out l (by omega) HLK.out, sim_plan HS.out l (by omega), HAD3.out.grown hgS (fun k e => by cases e; exact Nat.le_refl _), HNS1.out.2.2⟩
          refine HCL3.out.withPlan (fun k hk => heap_setCell_other wr ⟨w.heap.size, 7, none⟩ k _ (show k ≠ w.heap.size by rcases hk.1.2 with h | h <;> omega)) hrp (fun k hk => ?_) (fun k hk => hk.1)
          have hlt := HLV.out.block k hk
          exact ⟨fun e => by have := (hpf.lo k e).1; omega, .inl ⟨by have := HW0.out; omega, HP0.out k hlt⟩⟩
    by_cases hk9 : kind = 9
    · subst hk9
      have HSK : Hid (∀ W, Below wB.heap.size wB W → W.cell? ⟨w.heap.size + 1, 1, none⟩ = some (.int .i64 N) ∧ W.cell? ⟨w.heap.size + 1, 5, none⟩ = some (.slice la l.length lc)) := fun W hW => by
        have hk := (show Blk W (w.heap.size + 1) 39 _ from (hW.block _ HK1.out.lt).trans HK1.out)
        exact ⟨hk.cell rfl, hk.cell rfl⟩
      have hBD : Below wB.heap.size wB wB.drew := ⟨rfl, rfl, rfl, Nat.le_refl _, fun _ _ => rfl⟩
      clear o1 o2 o3 o4 o5
      go_upto_region 42 with fail
      have hSd : (fun W : World => W.cell? ⟨w.heap.size + 1, 1, none⟩ = some (.int .i64 N) ∧ W.cell? ⟨w.heap.size + 1, 5, none⟩ = some (.slice la l.length lc)) wB.drew := HSK.out _ hBD
      refine wp_region_tail_held (fun W => W.cell? ⟨w.heap.size + 1, 1, none⟩ = some (.int .i64 N) ∧ W.cell? ⟨w.heap.size + 1, 5, none⟩ = some (.slice la l.length lc)) 7 (by kernel_rfl) (by kernel_rfl) ?_
      simp only [List.take_succ_cons, List.take_zero]
      refine wpAnyH_take (i := 0) (v := ?_) rfl (by kernel_rfl) (by kernel_rfl) (by kernel_rfl) (fun _ _ _ h => h) (Or.inl ⟨by rfl, ?_⟩) (by assumption) ?_
      rotate_left 1
      · intro ww hSw; (try dsimp only at hSw); go_simp <;> with_reducible rfl
      try simp only [Act.put]
      refine wpAnyH_take (i := 1) (v := ?_) rfl (by kernel_rfl) (by kernel_rfl) (by kernel_rfl) (fun _ _ _ h => h) (Or.inl ⟨by rfl, ?_⟩) (by assumption) ?_
      rotate_left 1
      · intro ww hSw; (try dsimp only at hSw); go_simp <;> with_reducible rfl
      try simp only [Act.put]
      refine wpAnyH_take (i := 2) (v := ?_) rfl (by kernel_rfl) (by kernel_rfl) (by kernel_rfl) (fun _ _ _ h => h) (Or.inl ⟨by rfl, ?_⟩) (by assumption) ?_
      rotate_left 1
      · intro ww hSw; (try dsimp only at hSw); go_simp <;> with_reducible rfl
      try simp only [Act.put]
      refine wpAnyH_take (i := 4) (v := ?_) rfl (by kernel_rfl) (by kernel_rfl) (by kernel_rfl) (fun _ _ _ h => h) (Or.inl ⟨by rfl, ?_⟩) (by assumption) ?_
      rotate_left 1
      · intro ww hSw; (try dsimp only at hSw); go_simp <;> with_reducible rfl
      try simp only [Act.put]
      refine wpAnyH_take (i := 5) (v := ?_) rfl (by kernel_rfl) (by kernel_rfl) (by kernel_rfl) (fun _ _ _ h => h) (Or.inl ⟨by rfl, ?_⟩) (by assumption) ?_
      rotate_left 1
      · intro ww hSw; (try dsimp only at hSw); go_simp <;> with_reducible rfl
      try simp only [Act.put]
      refine wpAnyH_ready (rs := [3]) (by kernel_rfl) (by simp) ?_
      refine AllReadyH.cons rfl ?_ ?_
      rotate_left 1
      · exact AllReadyH.nil
      intro K hK
      go_simp
      refine hK.out _ _ (HSK.out _ (hBD.alloc (Nat.le_refl _) _)) (fun hHeld => ?_)
      try simp only [Act.put]
      clear hK
      refine wpAnyH_ready (rs := [6]) (by kernel_rfl) (by simp) ?_
      refine AllReadyH.cons rfl ?_ ?_
      rotate_left 1
      · exact AllReadyH.nil
      intro K2 hK2
      refine step_append_ints rfl (.tmp 174) (.tmp 176) rfl wB.heap.size (.slice (some ⟨wB.heap.size, 0, none⟩) 0 0) (.slice la l.length lc) [] l rfl (OwnI.empty wB) rfl HLV.out (HPF.out.base.alloc HPF.out.base.size (.cells #[] 3)).drew (by simp; omega) (by simp) ?_
      intro v1 w1 ho1 hg1
      rw [List.nil_append] at ho1
      obtain ⟨ia, ic, rfl⟩ := OwnI.slice ho1
      have hb1 : Below wB.heap.size wB w1 := ((Below.refl _ _).alloc (Nat.le_refl _) _).drew.grown hg1 (by simp) fun j hj => by cases hj; exact Nat.le_refl _
      have HB1 := Lib.hid hb1
      have HO1 := Lib.hid ho1
      refine hK2.out _ _ (HSK.out w1 hb1) (fun hHeld2 => ?_)
      try simp only [Act.put]
      clear hK2 hHeld hHeld2 hSd hg1 ho1 hb1
      refine wpAnyH_done (by kernel_rfl) ?_ _
      refine head_done 7 (by kernel_rfl) ?_
      simp only [List.drop_succ_cons, List.drop_zero]
      have HCP := Lib.hid (crash_pf N (.slice ia l.length ic) l (HPF.out.below HB1.out) HI.out (by have := HNN.out; omega) (OwnI.ints HO1.out) (by omega))
      go_wp2_with fail
      refine HCP.out.mono ?_; rintro e w2 ⟨g2, S2, bs, rfl, hbl, hnd, hpf2, hs2, hb2⟩
      have hinv := (Inv.crash (dirs := N) (tails := l) (bs := bs) HI.out hbl).mono (show n ≤ n + 3 by omega)
      have hsim := sim_crash HS.out HI.out N l bs hbl hnd
      have hb12 : Below wB.heap.size wB w2 := HB1.out.trans (hb2.mono HB1.out.size)
      have HB12 := Lib.hid hb12
      have HPF2 := Lib.hid hpf2
      have HS2 := Lib.hid (fun k (hk : S2 k) => Nat.le_trans HB1.out.size (hs2 k hk))
      have HTL := Lib.hid (tells_any _ w2 (HPF.out.below hb12) HI.out (by have := HNN.out; omega) HS.out ((HCL.out.below hb12).mono fun k hk => hk.1))
      have hs1 : R.sure.length < 1000 := by have h9 := HS.out.len HI.out 0; have h8 : R.sure.length ≤ n := h9; have := HNN.out; omega
      have hc1 : R.changes.length < 1000 := by have := HS.out.chg; have := HI.out.since; have := HNN.out; omega
      have href := fun (W : World) (hW : Below wB.heap.size wB W) => refCrash_any (P := cls w P S) _ R N (.slice la l.length lc) l W (HCL.out.below hW) HROK.out hs1 hc1 (HLV.out.below (HPF.out.base.trans (hW.mono HPF.out.base.size))) (fun i x hx => (HS.out.dirs i).num x hx) (fun f hf => ⟨by have := (HS.out.row f hf).1; omega, (HS.out.row f hf).2.1, (HS.out.row f hf).2.2⟩)
      generalize crashA A N l bs = Y1 at hinv hsim HPF2
      generalize crashR R N l = Z at hsim href
      obtain ⟨room2, files2, dir2, sure2, changes2, steps2, left2, plan2⟩ := Z
      have HSIM := Lib.hid hsim
      have HINV := Lib.hid hinv
      have HREF := Lib.hid href
      have hk0 := (show Blk w2 w.heap.size 33 [.int .i64 R.room, .slice fa R.files.length fc, .slice da R.dir.length dc, .slice sa R.sure.length sc, .slice ca R.changes.length cc, .int .i64 R.steps, .int .i64 R.left, .slice pa R.plan.length pc] from (hb12.block _ HK0.out.lt).trans HK0.out)
      obtain ⟨x0, x1, x2, x3, x4, x5, x6, x7, -⟩ := hk0.fs
      clear hbl hnd hpf2 hs2 hb2 hinv hsim hb12 hs1 hc1 href HCP HO1 hk0 HSK hBD
      go_wp2_with fail
      refine HTL.out.mono ?_; rintro e w3 ⟨rfl, hb3⟩
      have hb13 : Below wB.heap.size wB w3 := HB12.out.trans (hb3.mono HB12.out.size)
      have HB13 := Lib.hid hb13
      have HSZ3 := Lib.hid hb3.size
      have HPF3 := Lib.hid (HPF2.out.below hb3)
      have hk0 := (show Blk w3 w.heap.size 33 [.int .i64 R.room, .slice fa R.files.length fc, .slice da R.dir.length dc, .slice sa R.sure.length sc, .slice ca R.changes.length cc, .int .i64 R.steps, .int .i64 R.left, .slice pa R.plan.length pc] from (hb13.block _ HK0.out.lt).trans HK0.out)
      have hk1 := (show Blk w3 (w.heap.size + 1) 39 _ from (hb13.block _ HK1.out.lt).trans HK1.out)
      have HRC := Lib.hid (HREF.out w3 hb13)
      have o1 := hk1.cell (i := 1) rfl
      have o5 := hk1.cell (i := 5) rfl
      clear x0 x1 x2 x3 x4 x5 x6 x7
      obtain ⟨x0, x1, x2, x3, x4, x5, x6, x7, -⟩ := hk0.fs
      clear hb3 hb13 hk0 hk1 HREF HTL
      go_wp2_with fail
      refine HRC.out.mono ?_; rintro e w4 ⟨v4, rfl, hr4, hb4⟩
      obtain ⟨fa2, fc2, da2, dc2, sa2, sc2, ca2, cc2, pa2, pc2, cvs2, rfl, -⟩ := hr4.parts
      have hb14 : Below wB.heap.size wB w4 := HB13.out.trans (hb4.mono HB13.out.size)
      have HKA := Lib.hid (show Blk w4 w.heap.size 33 [.int .i64 R.room, .slice fa R.files.length fc, .slice da R.dir.length dc, .slice sa R.sure.length sc, .slice ca R.changes.length cc, .int .i64 R.steps, .int .i64 R.left, .slice pa R.plan.length pc] from (hb14.block _ HK0.out.lt).trans HK0.out)
      have HKC := Lib.hid (show Blk w4 (w.heap.size + 2) 33 zeroC from (hb14.block _ HK2.out.lt).trans HK2.out)
      have HPF4 := Lib.hid (HPF3.out.below hb4)
      have HCL4 := Lib.hid (hr4.mono (Q := cls w P S2) fun k hk => ⟨fun e => by have := (HPF3.out.lo k e).2; omega, .inr (by have := HB13.out.size; have := HWB.out; omega)⟩)
      have HAD4 : Hid (Adv S S2 w w4) := HAD.out.trans ⟨Keep.of_below hb14, fun k hk => .inr (HS2.out k hk)⟩
      have HN4 : Hid (¬ S2 w.heap.size ∧ ¬ S2 (w.heap.size + 2)) := ⟨fun e => by have := HS2.out _ e; have := HWB.out; omega, fun e => by have := HS2.out _ e; have := HWB.out; omega⟩
      clear hr4 hb4 hb14 x0 x1 x2 x3 x4 x5 x6 x7 o1 o5 HRC
      obtain ⟨x0, x1, x2, x3, x4, x5, x6, x7, y0, y1, y2, y3, y4, y5, y6, y7⟩ := HKA.out.fs
      go_wp2_with fail
      go_meet
      exact PlR.fin HKA.out HKC.out HPF4.out HINV.out HSIM.out HCL4.out HAD4.out HN4.out.1 HN4.out.2 HW0.out
    clear o1 o2 o3 o4 o5
    go_wp2_with fail
    go_meet
    exact ⟨g, S, A, R, 0, fa, fc, da, dc, sa, sc, ca, cc, pa, pc, rfl, rfl, rfl, HK0.out, HK2.out, HCL.out, HPF.out, HI.out.mono (by omega), HS.out, HAD.out, HNS.out.2.2⟩
end Go.Proofs.YtigbgajelkknbaaGreatDoor
