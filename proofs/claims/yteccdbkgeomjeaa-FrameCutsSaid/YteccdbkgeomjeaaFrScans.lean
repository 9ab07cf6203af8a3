/- FrameScans: the front of any bytes is the document's. For all slices of bytes; no condition. -/
import Derived.Test.YteccdbkgeomjeaaFrQ
import Derived.Test.YteccdbkgeomjeaaFrSums
namespace Go.Proofs.Yteccdbkgeomjeaa
open Go.RowKit Go.WideShapes Go.ChangeShapes Go.ChangeAt

/-- Cells of what is owned. -/
theorem ownsRow_cell {w : World} {base : Nat} {e : TypeId} {n c : Nat} {a : Option Addr} {xs : List Value} (h : w.ownsRow base e 2 (.slice a n c) n xs) {j : Nat} {v : Value} (hv : xs[j]? = some v) :
    ∃ g, a = some ⟨g, 0, none⟩ ∧ base ≤ g ∧ w.cell? ⟨g, j, none⟩ = some v := by
  have hj : j < n * 2 := by
    have := (List.getElem?_eq_some_iff.1 hv).1
    rw [h.1] at this; exact this
  rcases h.2 with ⟨_, h0⟩ | ⟨g, cap, cur, h1, h2, h3, h4, _, h5, h6⟩
  · omega
  · cases h1
    refine ⟨g, rfl, h2, ?_⟩
    rw [cell_of_row w g j cur _ _ h3, ← Array.getElem?_toList]
    rw [← h6, List.getElem?_take_of_lt hj] at hv
    exact hv

set_option maxRecDepth 100000 in
set_option maxHeartbeats 8000000 in
theorem scans_any (v : Value) (p : List Int) (w : World) (hp : Bytes w v p) (hy : Byt p) (hm : p.length < 9223372036854775808) :
    Calls Try.prog 6 #[v] w fun e w' => e = .returned (.bool true) ∧ Below w.heap.size w w' := by
  obtain ⟨va, vc, rfl⟩ := hp.slice'
  have HP := Lib.hid hp
  have HY := Lib.hid hy
  clear hp hy
  go_enter Try.func6, Try.ntmps6
  go_wp2_with fail
  refine (awake_any _).mono ?_; rintro e w1 ⟨rfl, hb1⟩
  have HB1 := Lib.hid hb1
  clear hb1
  by_cases hlong : (9000 : Int) < p.length
  · go_wp2_with fail
    refine (awake_any _).mono ?_; rintro e w2 ⟨rfl, hb2⟩
    have HE := Lib.hid (HB1.out.trans (hb2.mono HB1.out.size))
    clear hb2
    go_wp2_with fail
    go_ret
    exact ⟨rfl, HE.out⟩
  · have hl : p.length ≤ 9000 := by omega
    have HL := Lib.hid hl
    clear hl
    have cS := scan_any _ p w1 (.inl (HP.out.below HB1.out)) HY.out (by have := HL.out; omega)
    have CS := Lib.hid cS
    clear cS
    go_wp2_with fail
    refine CS.out.mono ?_; rintro e w2 ⟨v2, xs, m, rfl, hsc, hF, hb2⟩
    obtain ⟨g2, c2, rfl⟩ := hF.slice
    have HF := Lib.hid hF
    have HB2 := Lib.hid (HB1.out.trans (hb2.mono HB1.out.size))
    have HSC := Lib.hid hsc
    have hcv := run_string (HP.out.below HB2.out)
    clear hF hb2 hsc
    go_wp2_with fail
    refine (refScan_any p w2 HY.out (by have := HL.out; omega)).mono ?_; rintro e w3 ⟨v3, fs, m', rfl, hsc', hR, hb3⟩
    obtain ⟨hfs, hmm⟩ := HSC.out.same hsc'
    subst hmm
    have hxl : xs.length = fs.length := by rw [← hfs]; unfold plainF; rw [List.length_map]
    obtain ⟨g3, c3, rfl⟩ := ownsRow_slice hR
    have HR := Lib.hid (show w3.ownsRow w2.heap.size 42 2 (.slice g3 fs.length c3) fs.length (cellsR fs) from hR)
    have HF3 := Lib.hid (HF.out.keep hb3)
    have HB3 := Lib.hid (HB2.out.trans (hb3.mono HB2.out.size))
    have HFS := Lib.hid hfs
    obtain ⟨N, hN⟩ : ∃ N, N = fs.length := ⟨_, rfl⟩
    rw [← hN] at HR hxl ⊢
    rw [hxl]
    have HXL := Lib.hid hxl
    have HN := Lib.hid hN
    have hNb : N ≤ 9000 := by have := HSC.out.len HY.out; have h2 := HL.out; have h3 := HN.out; have h4 := congrArg List.length HFS.out; omega
    clear hR hb3 hfs hsc' hxl hcv hN
    go_wp2_with fail
    go_loopw [7, 39] (fun _ s39 wr => ∃ i : Nat, i ≤ N ∧ s39 = .int .i64 i ∧ Below w3.heap.size w3 wr) (fun _ s39 _ => N - (intOf s39).toNat)
    case atStart => exact ⟨0, by omega, rfl, Below.refl _ _⟩
    case round =>
      obtain ⟨i, hi, rfl, hbr⟩ := hrel
      have HBR := Lib.hid hbr
      clear hbr
      by_cases hlt : i < N
      · have hxi : ∃ tk tp tu, xs[i]? = some (tk, tp, tu) := ⟨(xs[i]'(by rw [HXL.out]; exact hlt)).1, _, _, List.getElem?_eq_getElem _⟩
        obtain ⟨tk, tp, tu, hxi⟩ := hxi
        have hfi : fs[i]? = some (tk, tp) := by rw [← HFS.out]; unfold plainF; rw [List.getElem?_map, hxi]; rfl
        obtain ⟨e1, e2⟩ := cellsF_get xs i _ hxi
        obtain ⟨e3, e4⟩ := cellsR_get fs i _ hfi
        rw [Nat.mul_comm] at e1 e2 e3 e4
        have hown := (HF3.out.keep HBR.out).own
        rw [HXL.out] at hown
        obtain ⟨gA, rfl, _, c1⟩ := ownsRow_cell hown e1
        obtain ⟨_, hA2, _, c2⟩ := ownsRow_cell hown e2
        cases hA2
        obtain ⟨gB, rfl, _, c3⟩ := ownsRow_cell (ownsRow_keep HR.out HBR.out) e3
        obtain ⟨_, hB2, _, c4⟩ := ownsRow_cell (ownsRow_keep HR.out HBR.out) e4
        cases hB2
        have hpay := (HF3.out.keep HBR.out).pay _ (List.mem_of_getElem? hxi)
        simp only at hpay c1 c2 c3 c4
        obtain ⟨gu, nu, cu, rfl⟩ : ∃ g n c, tu = .slice g n c := by
          obtain ⟨g, c, h⟩ := hpay.slice
          exact ⟨g, _, c, h⟩
        have hcv : ∀ n, (convert 30 9 (.slice gu nu cu)).run Try.prog (wr.drewN n) = .ok (.string (strOfNums tp)) (wr.drewN n) := fun n => run_string (hpay.bytes.below (Below.drewN (Below.refl _ wr) n))
        have lN : (i : Int) < N := by omega
        clear hxi hfi e1 e2 e3 e4 hown hpay
        generalize strOfNums tp = T at *
        go_upto_region 10 with fail
        go_quiet (fail)
        clear c1 c2 c3 c4 hcv
        go_wp2_with fail
        go_roundw
        case rel => exact ⟨i + 1, by omega, by go_num, Below.drewN HBR.out _⟩
        case measure => simp [intOf]; omega
      · obtain rfl : i = N := by omega
        go_wp2_with fail
        go_ret
        exact ⟨rfl, HB3.out.trans (HBR.out.mono HB3.out.size)⟩

set_option maxRecDepth 100000 in
theorem scans_lifted (os : Os) (started : os.Started) (H : Type) (enc : TypeId × Value → H) :
    ReturnsInHanded {} Try.checked os 6 .any (Rows.frameScansSpec.pre6 enc Try.prog Try.f6 Rows.frameScansRow.domain false) (Rows.frameScansSpec.post enc Try.prog Try.f6 false true false false) := by
  refine returnsInHanded_of_change (C := Try.checked) Try.own started (by kernel_rfl) Try.func6
    (ChangeSpec.witness6 (enc := enc) (C := Try.checked) false ⟨#[], #[.slice none 0 0], []⟩ 8 (by kernel_rfl) (by kernel_rfl) (by kernel_rfl) (by kernel_rfl)) ?_
  intro W base args ds gs before hval0 hW hcnd _
  have hval : ∀ (j : Nat) t v, Try.f6.params[j]? = some t → args[j]? = some v → Value.okWide Try.prog W .any base t v := hval0
  have hW' := hW
  obtain ⟨p, q, hA0, hV, hbe, hfz, hnd⟩ := hW
  have hA : DataW.TrodAll enc Try.prog W 0 (fun _ => true) true Try.f6.params.toList args.toList ds p := hA0
  rw [Try.params6] at hA hval
  obtain ⟨v0, d0, rfl, rfl, h0⟩ := trodAll_one hA
  obtain ⟨zs, hb, hzl, hy⟩ := open_bytes Try.underlying30 Try.underlying5 byteCells (hval 0 _ v0 rfl rfl) h0
  clear hA0 hval0 hfz hnd
  refine (scans_any v0 zs W hb (fun z hz => wf_u8 (hy z hz)) hzl).mono fun e W' ⟨he, hb⟩ => ?_
  subst he
  obtain rfl : gs = [] := (trodVars_none hV).1
  exact ⟨_, rfl, law_post Try.laidOut hW' rfl (by rw [Try.params6]; decide +kernel) (tb := 4) rfl Try.underlying4 hb rfl⟩

theorem scans_holds : Rows.FrameScansSaid :=
  OpenClaim.holds_of_wide 6 Try.f6 rfl rfl rfl rfl rfl rfl rfl ⟨rfl, rfl, rfl, rfl, rfl⟩ rfl rfl rfl rfl rfl (by kernel_rfl) Try.func6 (by kernel_rfl)
    (of_decide_eq_true (by kernel_rfl)) (by unfold Func.isWrapper; first | (rw [if_pos (by decide +kernel)]; kernel_rfl) | (rw [if_neg (by decide +kernel)]; exact ⟨rfl, rfl⟩))
    (fun os started H enc _ => scans_lifted os started H enc)
end Go.Proofs.Yteccdbkgeomjeaa
