/- ManifestLast, walked: the manifest that was saved last with OK is loaded, whatever is done to other files. -/
import Derived.Test.YtigbgajelkknbaaGreatDoorMlA
import Derived.Test.YtigbgajelkknbaaGreatDoorMfJ
namespace Go.Proofs.YtigbgajelkknbaaGreatDoor
open Go.RowKit Go.Maps Go.WideMaps
set_option maxRecDepth 100000

/-- A box of a call's own is written. -/
theorem PF.box {w0 w w' : World} {g b : Nat} {S : Nat → Prop} {A : FsA} (h : PF w0 w g S A) (hB : But w.heap.size b w w') (hn : ¬ S b) (hb : w0.heap.size ≤ b) : PF w0 w' g S A :=
  ⟨h.fs.to (fun _ h => h) fun k hk hl => hB.block k hl fun e => hn (e ▸ hk), fun k hk => ⟨(h.lo k hk).1, Nat.lt_of_lt_of_le (h.lo k hk).2 hB.size⟩,
    h.base.trans ⟨hB.os, hB.tape, hB.output, hB.size, fun k hk => hB.block k (Nat.lt_of_lt_of_le hk h.base.size) (by omega)⟩⟩
theorem nMan_list : nMan.toList = [109, 97, 110, 105, 102, 101, 115, 116] := by rw [ByteArray.toList_eq]; rfl
theorem save_calm {A A' : FsA} {v c : Int} {ns : List Int} (h : Calm A) (hr : SaveR v ns A A' c) : Calm A' := by
  rcases hr with ⟨_, hr⟩ | ⟨_, rfl, _⟩
  · exact (calm_runs h hr).1
  · exact h
/-- What stands: the file system holds m, and so does the box. -/
structure LastAt (w0 wr : World) (b7 n g : Nat) (S : Nat → Prop) (A : FsA) (m : Option (Int × List Int)) (lv : Int) (lu : Value) : Prop where
  pf : PF w0 wr g S A
  inv : Inv A n
  calm : Calm A
  now : NowM A (bytM m)
  blk : Blk wr b7 61 [.int .i64 lv, lu]
  no : ¬ S b7
  ge : w0.heap.size ≤ b7
  is : (m = none ∧ lv = 0) ∨ ∃ ns, m = some (lv, ns) ∧ GoodM lv ns ∧ Ints w0 lu ns
section
variable {w0 wr w' : World} {b7 n n' g : Nat} {S S' : Nat → Prop} {A A' : FsA} {m : Option (Int × List Int)} {lv : Int} {lu : Value}
theorem LastAt.kept (h : LastAt w0 wr b7 n g S A m lv lu) (ha : Adv S S' wr w') (hp : PF w0 w' g S' A') (hi : Inv A' n') (hc : Calm A') (hn : NowM A' (bytM m)) : LastAt w0 w' b7 n' g S' A' m lv lu :=
  ⟨hp, hi, hc, hn, (ha.blk h.blk h.no).1, (ha.blk h.blk h.no).2, h.ge, h.is⟩
theorem LastAt.below (h : LastAt w0 wr b7 n g S A m lv lu) (hb : Below wr.heap.size wr w') : LastAt w0 w' b7 n g S A m lv lu := h.kept (Adv.of_below hb) (h.pf.below hb) h.inv h.calm h.now
theorem LastAt.mono (h : LastAt w0 wr b7 n g S A m lv lu) (hn : n ≤ n') : LastAt w0 wr b7 n' g S A m lv lu := ⟨h.pf, h.inv.mono hn, h.calm, h.now, h.blk, h.no, h.ge, h.is⟩
theorem LastAt.fails {v c : Int} {ns : List Int} (h : LastAt w0 wr b7 n g S A m lv lu) (ha : Adv S S' wr w') (hp : PF w0 w' g S' A') (hi : Inv A' n') (hr : SaveR v ns A A' c) (hc : c ≠ 0) : LastAt w0 w' b7 n' g S' A' m lv lu := by
  refine h.kept ha hp hi (save_calm h.calm hr) ?_
  rcases hr with ⟨_, hr⟩ | ⟨_, rfl, _⟩
  · exact (runs_now h.inv h.calm h.now hr).2 hc
  · exact h.now
theorem LastAt.saved {v : Int} {u : Value} {ns : List Int} (h : LastAt w0 wr b7 n g S A m lv lu) (ha : Adv S S' wr w') (hp : PF w0 w' g S' A') (hi : Inv A' n') (hr : SaveR v ns A A' 0) (hu : IntsW w0 u ns) :
    LastAt w0 ((w'.setCell ⟨b7, 0, none⟩ (.int .i64 v)).setCell ⟨b7, 1, none⟩ u) b7 n' g S' A' (some (v, ns)) v u := by
  obtain ⟨hg, hr'⟩ : GoodM v ns ∧ Runs (manB v ns) 0 A A' 0 := by
    rcases hr with h | ⟨_, _, h⟩
    · exact h
    · cases h
  obtain ⟨hk, hno⟩ := ha.blk h.blk h.no
  exact ⟨hp.box (((But.refl _ b7 _).setCell (p := ⟨b7, 0, none⟩) (.inr rfl) _).setCell (p := ⟨b7, 1, none⟩) (.inr rfl) _) hno h.ge, hi, save_calm h.calm hr, (runs_now h.inv h.calm h.now hr').1 rfl, (hk.set 0 _).set 1 _, hno, h.ge, .inr ⟨ns, rfl, hg, hu.ints hg.2.1.1⟩⟩
theorem LastAt.created {s : ByteArray} {b : Nat} (h : LastAt w0 wr b7 n g S A m lv lu) (hs : s ≠ nMan) (hb : A.file b = none) (ha : Adv S S' wr w') (hp : PF w0 w' g S' (createA A s b).1) : LastAt w0 w' b7 (n + 3) g S' (createA A s b).1 m lv lu :=
  h.kept ha hp (inv_create h.inv s b) (calm_create h.calm s b).1 (create_now h.inv h.now hs hb)
theorem LastAt.appended {s : ByteArray} {p : List Int} (h : LastAt w0 wr b7 n g S A m lv lu) (hs : s ≠ nMan) (ha : Adv S S' wr w') (hp : PF w0 w' g S' (appendA A s p).1) : LastAt w0 w' b7 (n + 3) g S' (appendA A s p).1 m lv lu :=
  h.kept ha hp (inv_append h.inv s p) (calm_append h.calm s p).1 (append_now h.inv h.now hs p)
theorem LastAt.removed {s : ByteArray} (h : LastAt w0 wr b7 n g S A m lv lu) (hs : s ≠ nMan) (ha : Adv S S' wr w') (hp : PF w0 w' g S' (removeA A s).1) : LastAt w0 w' b7 (n + 3) g S' (removeA A s).1 m lv lu :=
  h.kept ha hp (inv_remove h.inv s) (calm_remove h.calm s).1 (remove_now h.now hs)
end
/-- One byte, newly laid. -/
theorem one_byte (w : World) (t : TypeId) : Bytes (w.alloc (.cells #[Value.int .u8 1] t)) (.slice (some ⟨w.heap.size, 0, none⟩) 1 1) [1] := by
  refine Or.inr (Or.inr ⟨w.heap.size, 0, 1, rfl, by simp, by simp, ?_⟩)
  have hk := Blk.new w t [Value.int .u8 1]
  exact hk.range 0 _ fun j v hv => by rw [Nat.zero_add]; exact hv
set_option maxHeartbeats 16000000 in
theorem last_any (v vs : Value) (ms : List (Int × List Int)) (ss : List ByteArray) (w0 : World) (hl : NumL w0) (h : ManAt w0 v ms) (hok : ManOk ms) (hs : StrAt w0 vs ss) (hso : StrOk ss) :
    Calls Tryz.prog 8 #[v, vs] w0 fun e w' => e = .returned (.bool true) ∧ Below w0.heap.size w0 w' := by
  obtain ⟨va, vc, rfl⟩ := h.slice
  obtain ⟨sa, sc, rfl⟩ := hs.slice
  have HL := Lib.hid hl
  have HM := Lib.hid h
  have HOK := Lib.hid hok
  have HS := Lib.hid hs
  have HSO := Lib.hid hso
  clear h hok hl hs hso
  go_enter Tryz.func8, Tryz.ntmps8
  go_wp2_with fail
  refine (awake5_any w0 HL.out).mono ?_; rintro e w1 ⟨rfl, hb1⟩
  have HB1 := Lib.hid hb1
  clear hb1
  go_wp2_with fail
  refine (new_pf 60000 (by omega) (by omega) HB1.out).mono ?_; rintro e w2 ⟨g, S, rfl, hpf, hb2⟩
  have HPF := Lib.hid hpf
  clear hpf hb2
  go_upto_region 7 with fail
  refine Fr.wp_world fun w3 hw3 => ?_
  have hb3 : Below w2.heap.size w2 w3 := by rw [hw3]; exact (Below.refl _ _).alloc (Nat.le_refl _) _
  have hk3 : Blk w3 w2.heap.size 61 [.int .i64 0, .slice none 0 0] := by rw [hw3]; exact Blk.new w2 _ _
  have hla : LastAt w0 w3 w2.heap.size (27 * 0) g S (newA 60000) none 0 (.slice none 0 0) :=
    ⟨HPF.out.below hb3, Inv.new 60000 (by omega) (by omega), ⟨rfl, rfl⟩, rfl, hk3, fun e => by have := (HPF.out.lo _ e).2; omega, HPF.out.base.size, .inl ⟨rfl, rfl⟩⟩
  obtain ⟨b7, hb7⟩ : ∃ b7, b7 = w2.heap.size := ⟨_, rfl⟩
  rw [← hb7] at hla
  try rw [← hb7]
  clear hk3 hb3 hw3 hb7 HPF HB1
  go_wp2_with fail
  go_loopw [8] (fun s8 wr => ∃ (i : Nat) (S : Nat → Prop) (A : FsA) (m : Option (Int × List Int)) (lv : Int) (lu : Value), i ≤ 20 ∧ i ≤ ms.length ∧ s8 = .int .i64 i ∧ LastAt w0 wr b7 (27 * i) g S A m lv lu)
    (fun s8 _ => 20 - (intOf s8).toNat)
  case atStart => exact ⟨0, S, _, none, 0, .slice none 0 0, Nat.zero_le _, Nat.zero_le _, rfl, hla⟩
  case round =>
    clear hla
    obtain ⟨i, S, A, m, lv, lu, hi20, hil, rfl, hla⟩ := hrel
    have HLA := Lib.hid hla
    clear hla
    by_cases hlt : i < ms.length ∧ i < 20
    · have l2 : (i : Int) < ms.length := by omega
      have l3 : (i : Int) < 20 := by omega
      have hoi := List.getElem?_eq_getElem hlt.1
      have hok := HOK.out _ (List.getElem_mem hlt.1)
      generalize ms[i] = p at hoi hok
      rcases HM.out with ⟨_, h0⟩ | ⟨b, o, cap, hv, hb, hc⟩
      · rw [h0] at hoi; cases hoi
      obtain ⟨u, hu, hcc⟩ := hc i p hoi
      cases hv
      obtain ⟨pv, ns⟩ := p
      simp only at hok hcc hu
      obtain ⟨ua, uc, rfl⟩ := hu.slice
      have HU := Lib.hid hu
      have HN := Lib.hid hok
      have HC := Lib.hid (fun (W : World) (hW : Below w0.heap.size w0 W) => hcc W (hW.block b hb))
      have HLT := Lib.hid hlt
      clear hoi hok hc hu hcc hb hi20 hil hlt
      obtain ⟨q0, q1⟩ := HC.out wr HLA.out.pf.base
      by_cases hlong : 100 < ns.length
      · have l4 : (100 : Int) < ns.length := by omega
        go_wp2_with fail
        go_roundw
        case rel => exact ⟨i + 1, S, A, m, lv, lu, by have := HLT.out; omega, by have := HLT.out; omega, by go_num, HLA.out.mono (by omega)⟩
        case measure => have := HLT.out; simp [intOf]; omega
      · have l4 : ¬ (100 : Int) < ns.length := by omega
        clear hlong
        have hi20 := HLT.out.2
        have HSV := Lib.hid (save_pf pv (.slice ua ns.length uc) ns HLA.out.pf HLA.out.inv (by omega) HL.out.tab (hu := HU.out.below HLA.out.pf.base) HN.out)
        clear hi20
        go_wp2_with fail
        refine HSV.out.mono ?_; rintro e w4 ⟨A', c, hsr, hinv, S2, rfl, hpf, hadv⟩
        have H4 := Lib.hid hpf
        have R4 := Lib.hid (HC.out w4 hpf.base)
        by_cases hc0 : c = 0
        case' pos =>
          subst hc0
          have hnew := HLA.out.saved (w' := w4) hadv hpf hinv hsr HU.out
          have HNEW := Lib.hid hnew
          obtain ⟨hk4, hn4⟩ := hadv.blk HLA.out.blk HLA.out.no
          have f0 := hk4.frozen 0
          have f1 := hk4.frozen 1
          have g0 := hk4.cell (i := 0) rfl
          have g1 := hk4.cell (i := 1) rfl
          obtain ⟨r0, r1⟩ := R4.out
          clear hnew hk4 hn4 hsr hinv hpf hadv HSV
          go_upto_region 13 with fail
          refine Fr.wp_world fun w5 hw5 => ?_
          rw [← hw5] at HNEW
          clear hw5 f0 f1 g0 g1 r0 r1 q0 q1 R4 HLA
          obtain ⟨m4, lv4, lu4, HNW⟩ : ∃ m4 lv4 lu4, Hid (LastAt w0 w5 b7 (27 * i + 18) g S2 A' m4 lv4 lu4) := ⟨_, _, _, HNEW⟩
          clear HNEW
        case' neg =>
          have hnew := HLA.out.fails (w' := w4) hadv hpf hinv hsr hc0
          have HNEW := Lib.hid hnew
          clear hnew hsr hinv hpf hadv HSV
          go_upto_region 13 with fail
          refine Fr.wp_world fun w5 hw5 => ?_
          subst hw5
          obtain ⟨m4, lv4, lu4, HNW⟩ : ∃ m4 lv4 lu4, Hid (LastAt w0 w5 b7 (27 * i + 18) g S2 A' m4 lv4 lu4) := ⟨_, _, _, HNEW⟩
          clear HNEW hc0 q0 q1 R4 HLA
        all_goals
          by_cases hil : i < ss.length
          · have l5 : (i : Int) < ss.length := by omega
            have hsi := List.getElem?_eq_getElem hil
            have hsk := HSO.out _ (List.getElem_mem hil)
            generalize ss[i] = s at hsi hsk
            rcases HS.out with ⟨_, h0⟩ | ⟨b', o', cap', hv, hb', hc'⟩
            · rw [h0] at hsi; cases hsi
            have hcc' := hc' i s hsi
            cases hv
            have HD := Lib.hid (fun (W : World) (hW : Below w0.heap.size w0 W) => hcc' W (hW.block b' hb'))
            have HSK := Lib.hid hsk
            have q := HD.out w5 HNW.out.pf.base
            clear hsi hsk hc' hcc' hb' hil
            by_cases hbig : s.size ≤ 50
            · have l6 : (s.size : Int) ≤ 50 := by omega
              by_cases hnm : s = nMan
              · have l7 : (s.toList == [109, 97, 110, 105, 102, 101, 115, 116]) = true := by rw [hnm, nMan_list]; rfl
                clear hnm hbig
                go_wp2_with fail
                go_roundw
                case rel => exact ⟨i + 1, S2, A', m4, lv4, lu4, by have := HLT.out; omega, by have := HLT.out; omega, by go_num, HNW.out.mono (by omega)⟩
                case measure => have := HLT.out; simp [intOf]; omega
              · have l7 : (s.toList == [109, 97, 110, 105, 102, 101, 115, 116]) = false := by rw [← nMan_list]; exact str_ne' hnm
                have HNM := Lib.hid hnm
                have hi20 := HLT.out.2
                have HCR := Lib.hid (create_pf s HNW.out.pf HNW.out.inv (by omega) HSK.out)
                clear hbig hnm hi20
                go_wp2_with fail
                refine HCR.out.mono ?_; rintro e w6 ⟨b6, hb6, S3, rfl, hpf3, hadv3⟩
                have h3 := HNW.out.created HNM.out hb6 hadv3 hpf3
                generalize (createA A' s b6).1 = A3 at h3
                generalize (createA A' s b6).2 = c3
                have HN3 := Lib.hid h3
                have q6 := HD.out w6 h3.pf.base
                have hno3 : ¬ S3 w6.heap.size := fun e => by have := (h3.pf.lo _ e).2; omega
                have HNO := Lib.hid hno3
                have hi20 := HLT.out.2
                have HAP := Lib.hid (append_pf s (.slice (some ⟨w6.heap.size, 0, none⟩) 1 1) [1] (h3.pf.below ((Below.refl _ w6).alloc (Nat.le_refl _) (.cells #[Value.int .u8 1] 5))) h3.inv (by omega) HSK.out (one_byte w6 _) (by simp) (fun x hx => by
                  have e : some w6.heap.size = some x := hx.1
                  cases e
                  exact HNO.out))
                clear h3 hb6 hpf3 hadv3 hno3 hi20 HCR HNW q
                go_wp2_with fail
                refine HAP.out.mono ?_; rintro e w7 ⟨S4, rfl, hpf4, hadv4⟩
                have h4 := (HN3.out.below ((Below.refl _ w6).alloc (Nat.le_refl _) (.cells #[Value.int .u8 1] 5))).appended HNM.out hadv4 hpf4
                generalize (appendA A3 s [1]).1 = A4 at h4
                generalize (appendA A3 s [1]).2 = c4
                have HN4 := Lib.hid h4
                have q7 := HD.out w7 h4.pf.base
                have hi20 := HLT.out.2
                have HRM := Lib.hid (remove_pf s h4.pf h4.inv (by omega) HSK.out)
                clear h4 hpf4 hadv4 hi20 HAP HN3 q6 HNO
                by_cases hm3 : (i : Int) % 3 = 2
                · go_wp2_with fail
                  refine HRM.out.mono ?_; rintro e w8 ⟨S5, rfl, hpf5, hadv5⟩
                  have h5 := HN4.out.removed HNM.out hadv5 hpf5
                  generalize (removeA A4 s).1 = A5 at h5
                  generalize (removeA A4 s).2 = c5
                  have HN5 := Lib.hid h5
                  clear h5 hpf5 hadv5 HRM HN4 q7
                  go_wp2_with fail
                  go_roundw
                  case rel => exact ⟨i + 1, S5, A5, m4, lv4, lu4, by have := HLT.out; omega, by have := HLT.out; omega, by go_num, HN5.out.mono (by omega)⟩
                  case measure => have := HLT.out; simp [intOf]; omega
                · have hm4 : ((i : Int) % 3 == 2) = false := by simpa using hm3
                  go_wp2_with fail
                  go_roundw
                  case rel => exact ⟨i + 1, S4, A4, m4, lv4, lu4, by have := HLT.out; omega, by have := HLT.out; omega, by go_num, HN4.out.mono (by omega)⟩
                  case measure => have := HLT.out; simp [intOf]; omega
            · have l6 : ¬ (s.size : Int) ≤ 50 := by omega
              clear hbig
              go_wp2_with fail
              go_roundw
              case rel => exact ⟨i + 1, S2, A', m4, lv4, lu4, by have := HLT.out; omega, by have := HLT.out; omega, by go_num, HNW.out.mono (by omega)⟩
              case measure => have := HLT.out; simp [intOf]; omega
          · have l5 : ¬ (i : Int) < ss.length := by omega
            clear hil
            go_wp2_with fail
            go_roundw
            case rel => exact ⟨i + 1, S2, A', m4, lv4, lu4, by have := HLT.out; omega, by have := HLT.out; omega, by go_num, HNW.out.mono (by omega)⟩
            case measure => have := HLT.out; simp [intOf]; omega
    · have hor : (¬ (i : Int) < ms.length) ∨ ((i : Int) < ms.length ∧ ¬ (i : Int) < 20) := by omega
      have HLD := Lib.hid (load_pf HLA.out.pf HLA.out.inv HL.out (by rw [HLA.out.now.read]; exact bytM_byt m))
      rw [HLA.out.now.read] at HLD
      clear hlt hi20 hil
      rcases hor with l2 | ⟨l2, l3⟩
      all_goals go_wp2_with fail
      all_goals
        refine HLD.out.mono ?_; rintro e w5 ⟨hb5, hq⟩
        clear HLD
        have hL5 := HLA.out.below hb5
        have HL5 := Lib.hid hL5
        rcases hL5.is with ⟨rfl, rfl⟩ | ⟨ns, rfl, hg, hi⟩
        · obtain rfl : e = .returned (.tuple #[.agg #[.int .i64 0, .slice none 0 0], .int .i64 3]) := by
            rcases hq with ⟨_, h⟩ | ⟨h, _⟩
            · exact h
            · cases h
          clear hq hL5 hb5 HLA
          go_upto_region 19 with fail
          refine Fr.wp_world fun w6 hw6 => ?_
          have hb6 : Below w5.heap.size w5 w6 := by rw [hw6]; exact (Below.refl _ _).alloc (Nat.le_refl _) _
          have HL6 := Lib.hid (HL5.out.below hb6)
          have g0 := HL6.out.blk.cell (i := 0) rfl
          clear hw6 hb6
          go_wp2_with fail
          go_ret
          exact ⟨by first | rfl | simp, HL6.out.pf.base⟩
        · obtain ⟨u, rfl, hu⟩ : ∃ u, e = .returned (.tuple #[.agg #[.int .i64 lv, u], .int .i64 0]) ∧ IntsAt w5 wr.heap.size u ns := by
            rcases hq with ⟨h, _⟩ | ⟨_, ⟨n, ns', u, hd, rfl, hu⟩ | ⟨hd, _⟩⟩
            · exact absurd rfl h
            · rw [show (bytM (some (lv, ns))).getD [] = manB lv ns from rfl, decM_enc hg] at hd
              cases hd
              exact ⟨u, rfl, hu⟩
            · rw [show (bytM (some (lv, ns))).getD [] = manB lv ns from rfl, decM_enc hg] at hd
              cases hd
          obtain ⟨ua, uc, rfl⟩ := hu.ge
          obtain ⟨la, lc, rfl⟩ := hi.slice
          have HU := Lib.hid hu
          have HI := Lib.hid hi
          have HG := Lib.hid hg
          have hne : ¬ lv = 0 := by have := hg.1.1; omega
          clear hq hL5 hb5 HLA hu hi hg
          go_upto_region 19 with fail
          refine Fr.wp_world fun w6 hw6 => ?_
          have hb6 : Below w5.heap.size w5 w6 := by rw [hw6]; exact (Below.refl _ _).alloc (Nat.le_refl _) _
          have hk6 : Blk w6 w5.heap.size 61 [.int .i64 lv, .slice ua ns.length uc] := by rw [hw6]; exact Blk.new w5 _ _
          have HL6 := Lib.hid (HL5.out.below hb6)
          have HU6 := Lib.hid (HU.out.below hb6).ints
          clear hw6
          obtain ⟨b9, hb9⟩ : ∃ b9, b9 = w5.heap.size := ⟨_, rfl⟩
          rw [← hb9] at hk6
          try rw [← hb9]
          have HK9 := Lib.hid hk6
          have HK7 := Lib.hid HL6.out.blk
          have m0 := hk6.cell (i := 0) rfl
          have m1 := hk6.cell (i := 1) rfl
          have g0 := HL6.out.blk.cell (i := 0) rfl
          have g1 := HL6.out.blk.cell (i := 1) rfl
          have HI6 := Lib.hid (HI.out.below HL6.out.pf.base)
          have HRF := Lib.hid (fun (W : World) (hW : Below w6.heap.size w6 W) => ref5_any lv (.slice la ns.length lc) ns W (HI6.out.below hW))
          have HSM := Lib.hid (fun (W : World) (hW : Below w6.heap.size w6 W) => same5_any lv lv (.slice ua ns.length uc) (.slice la ns.length lc) ns ns W (HU6.out.below hW) (HI6.out.below hW) (by have := HG.out.2.1.2; omega) (by have := HG.out.2.1.2; omega))
          have HF := Lib.hid HL6.out.pf.base
          have hln : 1 ≤ ns.length := HG.out.2.1.1
          clear hk6 hb6 hb9 HL5 HU HI HL6 hln
          have HBD : Hid (Below w6.heap.size w6 w6.drew) := ⟨rfl, rfl, rfl, Nat.le_refl _, fun _ _ => rfl⟩
          have HM9 : Hid (∀ W : World, Below w6.heap.size w6 W → (W.cell? ⟨b9, 0, none⟩ = some (.int .i64 lv) ∧ W.cell? ⟨b9, 1, none⟩ = some (.slice ua ns.length uc)) ∧ W.cell? ⟨b7, 0, none⟩ = some (.int .i64 lv) ∧ W.cell? ⟨b7, 1, none⟩ = some (.slice la ns.length lc)) := fun W hW => ⟨⟨(blk_stay hW HK9.out).cell (i := 0) rfl, (blk_stay hW HK9.out).cell (i := 1) rfl⟩, (blk_stay hW HK7.out).cell (i := 0) rfl, (blk_stay hW HK7.out).cell (i := 1) rfl⟩
          go_upto_region 21 with fail
          go_region_with (first
            | (go_at_call 27; refine (HRF.out _ HBD.out).mono ?_; rintro e w7 ⟨rfl, hb7⟩; have HB7 := Lib.hid (HBD.out.trans (hb7.mono HBD.out.size)); clear hb7; obtain ⟨⟨y0, y1⟩, y2, y3⟩ := HM9.out _ HB7.out)
            | (go_at_call 32; refine (HSM.out _ HB7.out).mono ?_; rintro e w8 ⟨rfl, hb8⟩; have HB8 := Lib.hid (HB7.out.trans (hb8.mono HB7.out.size)); clear hb8))
          all_goals go_simp
          all_goals go_wp2_with fail
          all_goals go_ret
          all_goals exact ⟨by first | rfl | simp, HF.out.trans (HB8.out.mono HF.out.size)⟩
end Go.Proofs.YtigbgajelkknbaaGreatDoor
