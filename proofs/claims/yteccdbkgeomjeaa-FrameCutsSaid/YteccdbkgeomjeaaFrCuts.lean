/- FrameCuts: of frames' bytes, one behind the other, cut off anywhere, the front is those that stand whole ahead of the cut. For every list of payloads and every cut; no condition. -/
import Derived.Test.YteccdbkgeomjeaaFrR
import Derived.Test.YteccdbkgeomjeaaFrScans
namespace Go.Proofs.Yteccdbkgeomjeaa
open Go.RowKit Go.WideShapes Go.ChangeShapes Go.ChangeAt

/-- What is owned as one type's cells stays, where another type's grow. -/
theorem owns_grown {w w' : World} {base e1 e2 s1 s2 n1 n2 : Nat} {v1 v2 : Value} {xs1 xs2 : List Value} (h : w.ownsRow base e1 s1 v1 n1 xs1) (hv : w.ownsRow base e2 s2 v2 n2 xs2) (hne : e1 ≠ e2) (hg : w.grownBy w' v2.ownBlock) : w'.ownsRow base e1 s1 v1 n1 xs1 := by
  refine ⟨h.1, ?_⟩
  rcases h.2 with h1 | ⟨g, cap, cur, h1, h2, h3, h4⟩
  · exact .inl h1
  · refine .inr ⟨g, cap, cur, h1, h2, ?_, h4⟩
    rw [hg.block g ?_ ?_]
    · exact h3
    · by_cases k : g < w.heap.size
      · exact k
      · rw [Array.getElem?_eq_none (by omega)] at h3; cases h3
    · intro e
      rcases hv.2 with ⟨hn, _⟩ | ⟨x, cap', cur', hx, _, hh, _⟩
      · rw [hn] at e; cases e
      · rw [hx] at e
        have : g = x := Option.some.inj e
        subst this
        rw [h3] at hh
        injection hh with hh
        injection hh with _ hh
        exact hne hh
theorem intInfo : (Try.prog.info? 3).map (fun i => (i.zero, i.size, i.bytes)) = some (some (.int .i64 0), 1, 8) := by kernel_rfl
/-- The ends of the first i frames. -/
def endsV (ps : List (List Int)) (i : Nat) : List Value := (List.range i).map fun t => .int .i64 ((rowF 0 (ps.take (t + 1))).length : Nat)
theorem endsV_succ (ps : List (List Int)) (i : Nat) : endsV ps (i + 1) = endsV ps i ++ [.int .i64 ((rowF 0 (ps.take (i + 1))).length : Nat)] := by
  unfold endsV; rw [List.range_succ, List.map_append]; rfl
theorem endsV_length (ps : List (List Int)) (i : Nat) : (endsV ps i).length = i := by simp [endsV]
theorem endsV_get (ps : List (List Int)) (i t : Nat) (h : t < i) : (endsV ps i)[t]? = some (.int .i64 ((rowF 0 (ps.take (t + 1))).length : Nat)) := by
  unfold endsV; rw [List.getElem?_map, List.getElem?_range h]; rfl
theorem wpList_append_int {ops : Array Oper} {rest : List Oper} {o : Oper} {a : Act} {w : World} {Q : Exit → Act → World → Prop} (hgd : o.guard = none) (s x : Operand)
    (ho : o.op = .call { callee := .builtin .append, args := #[s, x], argTypes := #[52, 52] })
    (base : Nat) (v : Value) (n : Nat) (xs : List Value) (k : Int) (hs : a.eval s = v) (hown : w.ownsRow base 3 1 v n xs) (b : Nat) (hx : a.eval x = .slice (some ⟨b, 0, none⟩) 1 1)
    (hb : Blk w b 3 [.int .i64 k]) (hle : n ≤ 1000000) (hbase : base ≤ w.heap.size)
    (h : ∀ v' w', w'.ownsRow base 3 1 v' (n + 1) (xs ++ [.int .i64 k]) → w.grownBy w' v.ownBlock → wpList Try.prog ops Q rest (a.put o.dst v') w') : wpList Try.prog ops Q (o :: rest) a w := by
  obtain ⟨i0, hi, hz0, hz1, hz2⟩ := info_parts intInfo
  refine wpList_append_own w hgd s x 52 ho base 3 i0 (.int .i64 0) 1 8 Try.underlying52 hi hz0 hz1 hz2 rfl (by decide) v n xs hs hown ⟨b, 0, none⟩ 1 1 [.int .i64 k] hx
    rfl (fun j y hy => by rw [Addr.add_mid, Nat.zero_add]; exact hb.cell hy) (fun y hy => by
      rw [List.mem_singleton] at hy; subst hy; rfl) (by unfold maxLen; omega) (by omega) hbase ?_
  intro v' w' h1 h2 _
  exact h v' w' h1 h2

set_option maxRecDepth 100000 in
set_option maxHeartbeats 8000000 in
theorem cuts_any (v : Value) (ps : List (List Int)) (ct : Int) (w : World) (hp : PartsOk w v ps) :
    Calls Try.prog 7 #[v, .int .i64 ct] w fun e w' => e = .returned (.bool true) ∧ Below w.heap.size w w' := by
  obtain ⟨qa, cap, rfl, hpe⟩ := hp.parts.open
  have HPE := Lib.hid hpe
  have HP := Lib.hid hp
  clear hp hpe
  have cJ := joined_any 3000 (by omega) _ ps w HP.out.parts HP.out.len (fun i hi => (HP.out.each i hi).1)
  by_cases hc : ps.length ≤ 50 ∧ ps.flatten.length ≤ 3000
  · have hR : joinR 3000 ps = .tuple #[.string (strOfNums ps.flatten), .bool true] := by unfold joinR; rw [if_pos hc]
    rw [hR] at cJ
    have CJ : Hid (Calls Try.prog 10 #[.slice qa ps.length cap, .int .i64 3000] w fun e w' => e = .returned (.tuple #[.string (strOfNums ps.flatten), .bool true]) ∧ w = w') := cJ
    have hfit : Fit ps := fun p hpm => by
      obtain ⟨i, hi, rfl⟩ := List.getElem_of_mem hpm
      have h1 := (HP.out.each i hi).2
      have h2 := part_le ps i hi
      rw [List.getD_eq_getElem?_getD, List.getElem?_eq_getElem hi, Option.getD_some] at h1 h2
      exact ⟨h1, by omega⟩
    have HFIT := Lib.hid hfit
    obtain ⟨sl, hsl⟩ : ∃ sl, sl = ps.flatten.length := ⟨_, rfl⟩
    have hsz : (strOfNums ps.flatten).size = sl := by rw [hsl]; exact strOfNums_size _
    have HSLD := Lib.hid hsl
    have hrl := rowF_le ps 0
    obtain ⟨hc1, hc2⟩ := hc
    have HC2 := Lib.hid hc2
    clear hc2 hsl
    have HRL := Lib.hid hrl
    generalize strOfNums ps.flatten = S at *
    clear cJ hR hfit hrl
    go_enter Try.func7, Try.ntmps7
    go_wp2_with fail
    refine CJ.out.mono ?_; rintro e w' ⟨rfl, rfl⟩
    go_wp2_with fail
    refine (awake_any _).mono ?_; rintro e w1 ⟨rfl, hb1⟩
    have HB1 := Lib.hid hb1
    clear hb1
    go_wp2_with fail
    go_loopw [7, 8, 9, 10, 11, 12, 35] (fun s7 s8 _ _ _ _ s35 wr => ∃ (i c d : Nat) (g h : Option Addr), i ≤ ps.length ∧ s35 = .int .i64 i ∧ s7 = .slice g (rowF 0 (ps.take i)).length c ∧ s8 = .slice h i d ∧ OwnB wr w1.heap.size s7 (rowF 0 (ps.take i)) ∧ wr.ownsRow w1.heap.size 3 1 s8 i (endsV ps i) ∧ Below w1.heap.size w1 wr)
      (fun _ _ _ _ _ _ s35 _ => ps.length - (intOf s35).toNat)
    case atStart => exact ⟨0, 0, 0, none, none, by omega, rfl, rfl, rfl, World.ownsRow_nil _ _ _ _, World.ownsRow_nil _ _ _ _, Below.refl _ _⟩
    case round =>
      obtain ⟨i, c, d, g, h, hi, rfl, rfl, rfl, hA, hE, hB⟩ := hrel
      by_cases hlt : i < ps.length
      · obtain ⟨qb, qo, u, rfl, hql, hcu, hbu⟩ := HPE.out i hlt
        have hBw := HB1.out.trans (hB.mono HB1.out.size)
        have hcr : wr.cell? ⟨qb, qo + i, none⟩ = some u := by rw [World.cell?_of_block (w := w) (hBw.block qb hql)]; exact hcu
        have hpf : Byt (ps.getD i []) ∧ (ps.getD i []).length ≤ 8192 := HFIT.out _ (by
          rw [List.getD_eq_getElem?_getD, List.getElem?_eq_getElem hlt]; exact List.getElem_mem _)
        have HRR := Lib.hid (rowF_take_succ ps i hlt)
        have HEE := Lib.hid (endsV_succ ps i)
        have hRl : (rowF 0 (ps.take (i + 1))).length ≤ 4000 := by
          have h1 := rowF_le (ps.take (i + 1)) 0
          have h2 := flat_take_le ps (i + 1)
          have h3 := HC2.out
          rw [List.length_take] at h1
          omega
        have HFL := Lib.hid (frameI_length ((i % 9 : Nat) + 1) (ps.getD i []))
        have HRLS := Lib.hid (congrArg List.length HRR.out)
        obtain ⟨ua, un, uc, rfl⟩ : ∃ a n c, u = .slice a n c := by
          obtain ⟨a, c, h⟩ := hbu.slice
          exact ⟨a, _, c, h⟩
        generalize ps.getD i [] = p at *
        have hki : ((i : Int) % 9) = ((i % 9 : Nat) : Int) := by omega
        have CE := Lib.hid (enc_one ((i : Int) % 9 + 1) wr (by omega) (by omega) hbu hpf.1 hpf.2 hBw)
        rw [hki] at CE
        have CE2 : Hid (Calls Try.prog 14 #[.int .i64 ((i : Int) % 9 + 1), .slice (some ⟨wr.heap.size, 0, none⟩) 1 1] (wr.alloc (.cells #[.slice ua un uc] 30)) fun e w' => ∃ v', e = .returned (.tuple #[v', .int .i64 0]) ∧ OwnB w' wr.heap.size v' (frameI ((i % 9 : Nat) + 1) p) ∧ Below wr.heap.size wr w') := by
          show Calls _ _ _ _ _
          rw [hki]; exact CE.out
        generalize frameI ((i % 9 : Nat) + 1) p = F at *
        obtain ⟨R, hR⟩ : ∃ R, R = rowF 0 (ps.take i) := ⟨_, rfl⟩
        obtain ⟨R', hR'⟩ : ∃ R', R' = rowF 0 (ps.take (i + 1)) := ⟨_, rfl⟩
        obtain ⟨E, hEd⟩ : ∃ E, E = endsV ps i := ⟨_, rfl⟩
        obtain ⟨E', hE'⟩ : ∃ E', E' = endsV ps (i + 1) := ⟨_, rfl⟩
        rw [← hR, ← hR'] at HRR HRLS
        rw [← hR] at hA
        rw [← hR'] at HEE hRl
        rw [← hEd, ← hE'] at HEE
        rw [← hEd] at hE
        rw [← hR]
        have HRD := Lib.hid hR'
        have HED := Lib.hid hE'
        have HA := Lib.hid hA
        have HE := Lib.hid hE
        have HB := Lib.hid hB
        clear hR hR' hEd hE' hA hE hB hBw hcu hbu CE hki hpf
        go_wp2_with fail
        refine CE2.out.mono ?_; rintro e w2 ⟨vb, rfl, hob, hbb⟩
        obtain ⟨gb, nb, cb, rfl⟩ : ∃ g n c, vb = .slice g n c := by
          obtain ⟨g, c, h⟩ := hob.slice
          exact ⟨g, _, c, h⟩
        have HA2 := Lib.hid (HA.out.keep hbb)
        have HE2 := Lib.hid (ownsRow_keep HE.out hbb)
        have HOB := Lib.hid hob.bytes
        have HB2 := Lib.hid (HB.out.trans (hbb.mono HB.out.size))
        have HRE2 := Lib.hid (Below.refl w2.heap.size w2)
        clear hob hbb HA HE HB
        go_wp2_with (with_reducible refine wpList_append_bytesArg rfl (.tmp 51) (.tmp 52) rfl w1.heap.size (.slice g R.length c) _ R F ?_ HA2.out ?_ HOB.out HRE2.out ?_ HB2.out.size ?_)
        case refine_1 => rfl
        case refine_2 => rfl
        case refine_3 => have := HRLS.out; rw [List.length_append] at this; omega
        intro v7 w7 hA7 hg7
        have hE7 := owns_grown HE2.out HA2.out (by decide) hg7
        have hB7 := HB2.out.trans (HA2.out.below hg7 HB2.out.size)
        rw [← HRR.out] at hA7
        obtain ⟨g7, c7, rfl⟩ := hA7.slice
        have HA7 := Lib.hid hA7
        have HE7 : Hid ((w7.alloc (.cells #[.int .i64 (R'.length : Nat)] 3)).ownsRow w1.heap.size 3 1 (.slice h i d) i E) := World.ownsRow.alloc hE7 _
        have HN7 : Hid (Blk (w7.alloc (.cells #[.int .i64 (R'.length : Nat)] 3)) w7.heap.size 3 [.int .i64 (R'.length : Nat)]) := Blk.new w7 3 [.int .i64 (R'.length : Nat)]
        have HB7 := Lib.hid hB7
        have hbs7 : w1.heap.size ≤ (w7.alloc (.cells #[.int .i64 (R'.length : Nat)] 3)).heap.size := by have := hB7.size; simp; omega
        have HBS7 := Lib.hid hbs7
        clear hA7 hE7 hg7 hB7 hbs7 HA2 HE2 HOB HB2
        go_wp2_with (with_reducible refine wpList_append_int rfl (.tmp 54) (.tmp 57) rfl w1.heap.size (.slice h i d) i E (R'.length : Nat) ?_ HE7.out w7.heap.size ?_ HN7.out ?_ HBS7.out ?_)
        case refine_1 => rfl
        case refine_2 => rfl
        case refine_3 => omega
        intro v8 w8 hE8 hg8
        have hA8 : OwnB w8 w1.heap.size (.slice g7 R'.length c7) R' := owns_grown (HA7.out.alloc _) HE7.out (by decide) hg8
        have hB8 : Below w1.heap.size w1 w8 := (HB7.out.alloc HB7.out.size _).trans ((Below.refl w1.heap.size _).grown hg8 HBS7.out fun k hk => (World.ownsRow.lt HE7.out k hk).1)
        rw [← HEE.out] at hE8
        obtain ⟨g8, c8, rfl⟩ := ownsRow_slice hE8
        have HA8 := Lib.hid hA8
        have HE8 := Lib.hid hE8
        have HB8 := Lib.hid hB8
        clear hA8 hE8 hg8 hB8 HA7 HE7 HN7 HB7 HBS7
        go_wp2_with fail
        go_roundw
        case rel => exact ⟨i + 1, c7, c8, g7, g8, by omega, by go_num, by rw [← HRD.out], rfl, by rw [← HRD.out]; exact HA8.out, by rw [← HED.out]; exact HE8.out, HB8.out⟩
        case measure => simp [intOf]; omega
      · obtain rfl : i = ps.length := by omega
        rw [List.take_of_length_le (Nat.le_refl _)] at hA ⊢
        have hLb : (rowF 0 ps).length ≤ 4000 := by have := HRL.out; have := HC2.out; omega
        have hSL : sl ≤ (rowF 0 ps).length := by have := HRL.out; have := HSLD.out; omega
        obtain ⟨R, hR⟩ : ∃ R, R = rowF 0 ps := ⟨_, rfl⟩
        rw [← hR] at hA hLb hSL ⊢
        have hRB : Byt R := by rw [hR]; exact rowF_byt 0 HFIT.out
        have hux := u64_nonneg ct
        obtain ⟨kk, hkk⟩ : ∃ kk : Nat, IntKind.u64.wrap ct % ((R.length : Int) + 1) = (kk : Int) := ⟨(IntKind.u64.wrap ct % ((R.length : Int) + 1)).toNat, by rw [Int.toNat_of_nonneg (Int.emod_nonneg _ (by omega))]⟩
        have hkl : kk ≤ R.length := by have := Int.emod_lt_of_pos (IntKind.u64.wrap ct) (show (0 : Int) < (R.length : Int) + 1 by omega); omega
        obtain ⟨sa, sc, hs1, hb1⟩ := slice_to (.inl hA.bytes) kk hkl
        have CSC := Lib.hid (scan_any _ (R.take kk) wr hb1 (hRB.take kk) (by rw [List.length_take]; omega))
        obtain ⟨j, hj, hsj, htj⟩ := row_cut ps 0 kk HFIT.out
        rw [← hR] at hsj
        have HSJ := Lib.hid hsj
        have HTJ := Lib.hid htj
        have HE := Lib.hid hE
        have HB := Lib.hid hB
        have HRB := Lib.hid hRB
        have HR := Lib.hid hR
        have hBw := HB1.out.trans (hB.mono HB1.out.size)
        have HBW := Lib.hid hBw
        clear hA hE hB hRB hb1 hsj htj hR hBw
        go_wp2_with fail
        refine CSC.out.mono ?_; rintro e w2 ⟨v2, xs, m, rfl, hsc, hF, hb2⟩
        obtain ⟨hfs, hmm⟩ := hsc.same HSJ.out
        have hxl : xs.length = j := by
          have := congrArg List.length hfs
          unfold plainF at this
          rw [List.length_map, framesF_length, List.length_take] at this
          omega
        obtain ⟨g2, c2, rfl⟩ := hF.slice
        rw [hxl]
        have HF2 := Lib.hid hF
        have HE2 := Lib.hid (ownsRow_keep HE.out hb2)
        have HB2 := Lib.hid (HBW.out.trans (hb2.mono HBW.out.size))
        have HFS := Lib.hid hfs
        have HXL := Lib.hid hxl
        have HM := Lib.hid hmm
        clear hsc hF hb2 hfs hxl hmm hs1 hkk hux CSC HE
        go_wp2_with fail
        go_loop [16, 17, 19, 77] (fun s16 s17 _ s77 => ∃ t : Nat, t ≤ ps.length ∧ s77 = .int .i64 t ∧ s16 = .int .i64 (min t j : Nat) ∧ s17 = .int .i64 ((rowF 0 (ps.take (min t j))).length : Nat)) (fun _ _ _ s77 => ps.length - (intOf s77).toNat)
        case atStart => exact ⟨0, by omega, rfl, by rw [Nat.zero_min]; rfl, by rw [Nat.zero_min]; rfl⟩
        case round =>
          obtain ⟨t, ht, rfl, rfl, rfl⟩ := hrel
          by_cases hlt2 : t < ps.length
          · have hce := endsV_get ps ps.length t hlt2
            obtain ⟨gE, hgE, hcE⟩ : ∃ gE, h = some ⟨gE, 0, none⟩ ∧ w2.cell? ⟨gE, t, none⟩ = some (.int .i64 ((rowF 0 (ps.take (t + 1))).length : Nat)) := by
              rcases HE2.out.2 with ⟨_, h0⟩ | ⟨x, cap, cur, h1, _, h3, _, _, _, h6⟩
              · omega
              · cases h1
                refine ⟨x, rfl, ?_⟩
                rw [cell_of_row w2 x t cur _ _ h3, ← Array.getElem?_toList]
                rw [← h6, List.getElem?_take_of_lt (by omega)] at hce
                exact hce
            subst hgE
            have htj := HTJ.out t hlt2
            have hRt : (rowF 0 (ps.take (t + 1))).length ≤ 4000 := by
              have h1 := rowF_le (ps.take (t + 1)) 0
              have h2 := flat_take_le ps (t + 1)
              have h3 := HC2.out
              rw [List.length_take] at h1
              omega
            by_cases htl : t < j
            · have hle := htj.2 htl
              have hmi : min (t + 1) j = t + 1 := by omega
              have hmt : min t j = t := by omega
              have HMI : Hid (min (t + 1) j = t + 1) := hmi
              rw [hmt]
              generalize (rowF 0 (ps.take t)).length = q0 at *
              obtain ⟨q1, hq1⟩ : ∃ q1, q1 = (rowF 0 (ps.take (t + 1))).length := ⟨_, rfl⟩
              rw [← hq1] at hcE hle hRt
              have HQ1 := Lib.hid hq1
              have hleI : (q1 : Int) ≤ kk := by omega
              clear hq1 htj hmi hmt hce hle
              go_wp2_with fail
              go_round
              case rel => exact ⟨t + 1, by omega, by go_num, by rw [HMI.out]; go_num, by rw [HMI.out, HQ1.out]⟩
              case measure => simp [intOf]; omega
            · have hgt : kk < (rowF 0 (ps.take (t + 1))).length := by
                rcases Nat.lt_or_ge kk (rowF 0 (ps.take (t + 1))).length with h | h
                · exact h
                · exact absurd (htj.1 h) htl
              have HMI : Hid (min (t + 1) j = min t j) := by show _ = _; omega
              obtain ⟨q1, hq1⟩ : ∃ q1, q1 = (rowF 0 (ps.take (t + 1))).length := ⟨_, rfl⟩
              rw [← hq1] at hcE hgt hRt
              have hgtI : ¬ (q1 : Int) ≤ kk := by omega
              obtain ⟨mm, hmm⟩ : ∃ mm, mm = min t j := ⟨_, rfl⟩
              rw [← hmm] at HMI ⊢
              have hmb : mm ≤ t := by omega
              clear hq1 htj hgt hce hmm htl
              go_wp2_with fail
              go_round
              case rel => exact ⟨t + 1, by omega, by go_num, by rw [HMI.out], by rw [HMI.out]⟩
              case measure => simp [intOf]; omega
          · obtain rfl : t = ps.length := by omega
            have hmj : min ps.length j = j := by omega
            rw [hmj]
            have hmm : (m == (rowF 0 (ps.take j)).length) = true := by rw [HM.out]; simp
            rw [← HM.out]
            have hSLI : ¬ (R.length : Int) < sl := by omega
            clear hmm hmj ht hlt2
            go_wp2_with fail
            go_loopw [20, 106] (fun _ s106 wr => ∃ t : Nat, t ≤ j ∧ s106 = .int .i64 t ∧ Below w2.heap.size w2 wr) (fun _ s106 _ => j - (intOf s106).toNat)
            case atStart => exact ⟨0, by omega, rfl, Below.refl _ _⟩
            case round =>
              obtain ⟨t, ht, rfl, hbr⟩ := hrel
              have HBR := Lib.hid hbr
              clear hbr
              by_cases hlt3 : t < j
              · have hxi : ∃ tk tp tu, xs[t]? = some (tk, tp, tu) := ⟨(xs[t]'(by rw [HXL.out]; exact hlt3)).1, _, _, List.getElem?_eq_getElem _⟩
                obtain ⟨tk, tp, tu, hxi⟩ := hxi
                have hpi : (ps.take j)[t]? = some (ps.getD t []) := by
                  rw [List.getElem?_take_of_lt hlt3, List.getD_eq_getElem?_getD, List.getElem?_eq_getElem (by omega)]; rfl
                have hfi : (plainF xs)[t]? = some (tk, tp) := by unfold plainF; rw [List.getElem?_map, hxi]; rfl
                rw [HFS.out, framesF_get _ 0 t _ hpi] at hfi
                injection hfi with hfi
                injection hfi with hk1 hp1
                rw [Nat.zero_add] at hk1
                subst hp1
                obtain ⟨e1, e2⟩ := cellsF_get xs t _ hxi
                rw [Nat.mul_comm] at e1 e2
                have hown := (HF2.out.keep HBR.out).own
                rw [HXL.out] at hown
                obtain ⟨gA, rfl, _, c1⟩ := ownsRow_cell hown e1
                obtain ⟨_, hA2, _, c2⟩ := ownsRow_cell hown e2
                cases hA2
                have hpay := (HF2.out.keep HBR.out).pay _ (List.mem_of_getElem? hxi)
                simp only at hpay c1 c2
                obtain ⟨qb, qo, u, rfl, hql, hcu, hbu⟩ := HPE.out t (by omega)
                have hBq := HB2.out.trans (HBR.out.mono HB2.out.size)
                have c3 : wr.cell? ⟨qb, qo + t, none⟩ = some u := by rw [World.cell?_of_block (w := w) (hBq.block qb hql)]; exact hcu
                obtain ⟨gu, nu, cu, rfl⟩ : ∃ g n c, tu = .slice g n c := by
                  obtain ⟨g, c, h⟩ := hpay.slice
                  exact ⟨g, _, c, h⟩
                obtain ⟨gp, np, cp, rfl⟩ : ∃ g n c, u = .slice g n c := by
                  obtain ⟨g, c, h⟩ := hbu.slice
                  exact ⟨g, _, c, h⟩
                have hcv1 : ∀ n, (convert 30 9 (.slice gu nu cu)).run Try.prog (wr.drewN n) = .ok (.string (strOfNums (ps.getD t []))) (wr.drewN n) := fun n => run_string (hpay.bytes.below (Below.drewN (Below.refl _ wr) n))
                have hcv2 : ∀ n, (convert 30 9 (.slice gp np cp)).run Try.prog (wr.drewN n) = .ok (.string (strOfNums (ps.getD t []))) (wr.drewN n) := fun n => run_stringE ((hbu.below hBq).below (Below.drewN (Below.refl _ wr) n))
                generalize strOfNums (ps.getD t []) = T at *
                have lN : (t : Int) < j := by omega
                have lP : t < ps.length := by omega
                have hkt : tk = (t : Int) % 9 + 1 := by omega
                subst hkt
                have e5 : IntKind.i64.wrap ((t : Int).tmod 9 + 1) = (t : Int) % 9 + 1 := by rw [Int.tmod_eq_emod_of_nonneg (by omega)]; exact IntWalk.i64_in _ (by omega)
                have e6 : (t : Int).tmod 9 = (t : Int) % 9 := Int.tmod_eq_emod_of_nonneg (by omega)
                have e7 : IntKind.i64.wrap ((t : Int) % 9 + 1) = (t : Int) % 9 + 1 := IntWalk.i64_in _ (by omega)
                clear hxi hpi e1 e2 hown hpay hcu hbu hBq hk1
                go_upto_region 30 with fail
                go_quiet (fail)
                clear c1 c2 c3 hcv1 hcv2 e5 e6 e7
                go_wp2_with fail
                go_roundw
                case rel => exact ⟨t + 1, by omega, by go_num, Below.drewN HBR.out _⟩
                case measure => simp [intOf]; omega
              · obtain rfl : t = j := by omega
                go_wp2_with fail
                go_ret
                exact ⟨rfl, HB2.out.trans (HBR.out.mono HB2.out.size)⟩
  · have hR : joinR 3000 ps = .tuple #[.string ⟨#[]⟩, .bool false] := by unfold joinR; rw [if_neg hc]
    rw [hR] at cJ
    have CJ : Hid (Calls Try.prog 10 #[.slice qa ps.length cap, .int .i64 3000] w fun e w' => e = .returned (.tuple #[.string ⟨#[]⟩, .bool false]) ∧ w = w') := cJ
    clear cJ hR hc
    go_enter Try.func7, Try.ntmps7
    go_wp2_with fail
    refine CJ.out.mono ?_; rintro e w' ⟨rfl, rfl⟩
    go_wp2_with fail
    refine (awake_any _).mono ?_; rintro e w1 ⟨rfl, hb1⟩
    go_wp2_with fail
    refine (awake_any _).mono ?_; rintro e w2 ⟨rfl, hb2⟩
    go_wp2_with fail
    go_ret
    exact ⟨rfl, hb1.trans (hb2.mono hb1.size)⟩

set_option maxRecDepth 100000 in
theorem cuts_lifted (os : Os) (started : os.Started) (H : Type) (enc : TypeId × Value → H) :
    ReturnsInHanded {} Try.checked os 7 .any (Rows.frameCutsSpec.pre6 enc Try.prog Try.f7 Rows.frameCutsRow.domain false) (Rows.frameCutsSpec.post enc Try.prog Try.f7 false true false false) := by
  refine returnsInHanded_of_change (C := Try.checked) Try.own started (by kernel_rfl) Try.func7
    (ChangeSpec.witness6 (enc := enc) (C := Try.checked) false ⟨#[], #[.slice none 0 0, .int .i64 0], []⟩ 8 (by kernel_rfl) (by kernel_rfl) (by kernel_rfl) (by kernel_rfl)) ?_
  intro W base args ds gs before hval0 hW hcnd _
  have hval : ∀ (j : Nat) t v, Try.f7.params[j]? = some t → args[j]? = some v → Value.okWide Try.prog W .any base t v := hval0
  have hW' := hW
  obtain ⟨p, q, hA0, hV, hbe, hfz, hnd⟩ := hW
  have hA : DataW.TrodAll enc Try.prog W 0 (fun _ => true) true Try.f7.params.toList args.toList ds p := hA0
  rw [Try.params7] at hA hval
  obtain ⟨v0, v1, d0, d1, p0, p1, rfl, rfl, _, h0, h1⟩ := trodAll_two hA
  obtain ⟨a, rfl, _, _, _⟩ := open_int Try.underlying3 (hval 1 _ v1 rfl rfl) h1
  obtain ⟨zs, hb, hzl, hq⟩ := open_parts Try.underlying22 Try.underlying30 Try.underlying5 (by kernel_rfl) byteCells (hval 0 _ v0 rfl rfl) h0
  clear hA0 hval0 hfz hnd
  refine (cuts_any v0 zs a W ⟨hb, hzl, hq⟩).mono fun e W' ⟨he, hb⟩ => ?_
  subst he
  obtain rfl : gs = [] := (trodVars_none hV).1
  exact ⟨_, rfl, law_post Try.laidOut hW' rfl (by rw [Try.params7]; decide +kernel) (tb := 4) rfl Try.underlying4 hb rfl⟩

theorem cuts_holds : Rows.FrameCutsSaid :=
  OpenClaim.holds_of_wide 7 Try.f7 rfl rfl rfl rfl rfl rfl rfl ⟨rfl, rfl, rfl, rfl, rfl⟩ rfl rfl rfl rfl rfl (by kernel_rfl) Try.func7 (by kernel_rfl)
    (of_decide_eq_true (by kernel_rfl)) (by unfold Func.isWrapper; first | (rw [if_pos (by decide +kernel)]; kernel_rfl) | (rw [if_neg (by decide +kernel)]; exact ⟨rfl, rfl⟩))
    (fun os started H enc _ => cuts_lifted os started H enc)
end Go.Proofs.Yteccdbkgeomjeaa
