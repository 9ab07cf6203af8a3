/- Package manifest: its statements are awake: a manifest is saved and loaded. -/
import Derived.Test.YtkdjkmnalkalpaaGreatDoorMfG
import Derived.Test.YtkdjkmnalkalpaaGreatDoorMfK
namespace Go.Proofs.YtkdjkmnalkalpaaGreatDoor
open Go.RowKit Go.Maps Go.WideMaps
set_option maxRecDepth 100000

theorem text3 : textM 3 [1, 12] = [51, 10, 49, 10, 49, 50, 10] := by
  have h3 : Lib.decDigits 3 = [51] := by rw [Lib.decDigits]; rfl
  have h1 : Lib.decDigits 1 = [49] := by rw [Lib.decDigits]; rfl
  have h12 : Lib.decDigits 12 = [49, 50] := by rw [Lib.decDigits]; simp [h1]
  unfold textM linesI lineI digI
  simp [h3, h1, h12, intsOf]
theorem man3_len : (manB 3 [1, 12]).length = 16 := by
  unfold manB
  rw [Fr.frameI_length, text3]
  rfl
theorem man3_cut : strOfNums (((manB 3 [1, 12]).drop 5).take 7) = ⟨#[51, 10, 49, 10, 49, 50, 10]⟩ := by
  unfold manB
  rw [text3]
  rfl
theorem good3 : GoodM 3 [1, 12] := by decide
theorem two_ints {w : World} {t : TypeId} : Ints (w.alloc (.cells #[.int .i64 1, .int .i64 12] t)) (.slice (some ⟨w.heap.size, 0, none⟩) 2 2) [1, 12] := by
  have hk := Blk.new w t [Value.int .i64 1, .int .i64 12]
  exact .inr ⟨w.heap.size, 0, 2, rfl, by simp, hk.range 0 _ fun j v hv => by rw [Nat.zero_add]; exact hv⟩
set_option maxHeartbeats 8000000 in
theorem awake5_any (w : World) (hn : NumL w) : Calls Tryz.prog 13 #[] w fun e w' => e = .returned (.bool true) ∧ Below w.heap.size w w' := by
  have HN := Lib.hid hn
  clear hn
  go_enter Tryz.func13, Tryz.ntmps13
  go_wp2_with fail
  refine (new_pf 1000 (by omega) (by omega) (Below.refl _ w)).mono ?_; rintro e w1 ⟨g, S, rfl, hpf, hb1⟩
  have HP := Lib.hid hpf
  have HSV := Lib.hid (fun (W : World) (u : Value) (hb : Below w1.heap.size w1 W) (hu : Ints W u [1, 12]) => save_pf 3 u [1, 12] (hpf.below hb) (Inv.new 1000 (by omega) (by omega)) (by omega) HN.out.tab (.inl hu) (by simp))
  have HB1 := Lib.hid hpf.base
  clear hpf hb1
  go_wp2_with fail
  refine (HSV.out _ _ ((Below.refl _ w1).alloc (Nat.le_refl _) _) two_ints).mono ?_; rintro e w2 ⟨A', c, hsr, hinv, S2, rfl, hpf, hadv⟩
  obtain rfl : c = 0 := by
    rcases hsr with ⟨_, hr⟩ | ⟨hb, _⟩
    · exact runs_new (by rw [man3_len]; omega) (by omega) hr
    · exact absurd good3 hb
  have hall : AllM A' (some (manB 3 [1, 12])) := by
    rcases hsr with ⟨_, hr⟩ | ⟨hb, _⟩
    · exact (runs_all (Inv.new 1000 (by omega) (by omega)) (new_all 1000) hr).2 rfl
    · exact absurd good3 hb
  have hrd : readA A' nMan = (manB 3 [1, 12], 0) := read_all hinv hall
  have HP2 := Lib.hid hpf
  have HI2 := Lib.hid hinv
  have HRD := Lib.hid hrd
  have HLD := Lib.hid (load_pf hpf hinv HN.out (by rw [hrd]; exact manB_byt _ _))
  rw [hrd] at HLD
  clear hsr hinv hpf hadv hall hrd HSV HP
  go_wp2_with fail
  refine HLD.out.mono ?_; rintro e w3 ⟨hb3, hq⟩
  clear HLD
  obtain ⟨u, rfl, hu⟩ : ∃ u, e = .returned (.tuple #[.agg #[.int .i64 3, u], .int .i64 0]) ∧ IntsAt w3 w2.heap.size u [1, 12] := by
    rcases hq with ⟨h, _⟩ | ⟨_, ⟨n, ns, u, hd, rfl, hu⟩ | ⟨hd, _⟩⟩
    · exact absurd rfl h
    · rw [decM_enc good3] at hd
      cases hd
      exact ⟨u, rfl, hu⟩
    · rw [decM_enc good3] at hd
      cases hd
  obtain ⟨ua, uc, rfl⟩ := hu.ge
  have HU := Lib.hid hu
  have HB3 := Lib.hid (HP2.out.base.trans (hb3.mono HP2.out.base.size))
  have HP3 := Lib.hid (HP2.out.below hb3)
  clear hq hu hb3
  go_upto_region 5 with fail
  refine Fr.wp_world fun w4 hw4 => ?_
  have hb4 : Below w3.heap.size w3 w4 := by rw [hw4]; exact (Below.refl _ _).alloc (Nat.le_refl _) _
  have hk4 : Blk w4 w3.heap.size 37 [.int .i64 3, .slice ua [(1 : Int), 12].length uc] := by rw [hw4]; exact Blk.new w3 _ _
  have HB4 := Lib.hid (HB3.out.trans (hb4.mono HB3.out.size))
  have HK4 := Lib.hid hk4
  have HU4 := Lib.hid (HU.out.below hb4)
  have HR := Lib.hid (read_any g S2 A' nMan w4 (HP3.out.below hb4).fs HI2.out.named HI2.out.short (by decide))
  rw [HRD.out] at HR
  unfold nMan at HR
  clear hw4 hb4 hk4 HU
  go_wp2_with fail
  refine HR.out.mono ?_; rintro e w5 ⟨v, rfl, ho, hb5⟩
  have hby : Fr.BytesE w5 v (manB 3 [1, 12]) := .inl (Fr.OwnB.bytes ho)
  obtain ⟨va, vc, rfl⟩ := hby.slice
  obtain ⟨sa, sc, hsl, hse⟩ := Fr.slice_bytes hby 5 7 (by rw [man3_len]; omega)
  have HSL := Lib.hid hsl
  have hl7 : (((manB 3 [1, 12]).drop 5).take 7).length = 7 := by simp [man3_len]
  have HCV : Hid (∀ W : World, Below w5.heap.size w5 W → (convert 38 9 (.slice sa 7 sc)).run Tryz.prog W = .ok (.string ⟨#[51, 10, 49, 10, 49, 50, 10]⟩) W) := by
    intro W hb
    have h1 : Fr.BytesE W (.slice sa (((manB 3 [1, 12]).drop 5).take 7).length sc) (((manB 3 [1, 12]).drop 5).take 7) := by rw [hl7]; exact hse.below hb
    have := (in_of_bytesE h1).convert rfl sc 38 5 9 Tryz.underlying38 Tryz.underlying5 Tryz.underlying9
    rw [hl7, man3_cut] at this
    exact this
  have HB5 := Lib.hid (HB4.out.trans (hb5.mono HB4.out.size))
  have HK5 := Lib.hid (blk_stay hb5 HK4.out)
  have HU5 := Lib.hid (HU4.out.below hb5)
  rw [man3_len]
  clear ho hb5 hby hsl hse HR HU4 HK4
  have x0 := HK5.out.cell (i := 0) rfl
  have x1 := HK5.out.cell (i := 1) rfl
  have hsl2 : ∀ W : World, (Instr.slice 38 (.slice va 16 vc) (some (.int .i64 5)) (some (.int .i64 12)) none).run Tryz.prog W = .ok (.slice sa 7 sc) W := fun W => by
    have := HSL.out W 12 rfl
    rw [man3_len] at this
    exact this
  go_wp2_with fail
  refine (refInts_any _ _ [1, 12] [1, 12] _ (HU5.out.below ((Below.refl _ w5).alloc (Nat.le_refl _) _)).ints two_ints (by simp) (by simp)).mono ?_; rintro e w6 ⟨rfl, hb6⟩
  have hb56 : Below w5.heap.size w5 w6 := ((Below.refl _ w5).alloc (Nat.le_refl _) _).trans (hb6.mono (by simp))
  have hcv := HCV.out w6 hb56
  have HB6 := Lib.hid (HB5.out.trans (hb56.mono HB5.out.size))
  clear hb6 hb56 x0 x1
  go_wp2_with fail
  go_ret
  exact ⟨by first | rfl | simp, HB6.out⟩
end Go.Proofs.YtkdjkmnalkalpaaGreatDoor
