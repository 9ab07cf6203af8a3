/- SeglogNames: any id has the document's name, or none; any text is the name of the document's id, or of none: walked. -/
import Derived.Test.YtpfbiijcmmkjlaaDoorSgL
namespace Go.Proofs.YtpfbiijcmmkjlaaDoor
open Go.RowKit
set_option maxRecDepth 100000

set_option maxHeartbeats 8000000 in
theorem namesLaw_any (id : Int) (s : ByteArray) (w : World) (hl : NumL w) (hs : s.size ≤ 9223372036854775807) :
    Calls Tryd.prog 3 #[.int .i64 id, .string s] w fun e w' => e = .returned (.bool true) ∧ Below w.heap.size w w' := by
  have HL := Lib.hid hl
  clear hl
  go_enter Tryd.func3, Tryd.ntmps3
  go_wp2_with fail
  refine (awake4_any w HL.out).mono ?_; rintro e w1 ⟨rfl, hb1⟩
  have HB1 := Lib.hid hb1
  clear hb1
  by_cases hlong : 200 < s.size
  · have l1 : (200 : Int) < s.size := by omega
    go_wp2_with fail
    refine (awake4_any w1 (HL.out.below HB1.out)).mono ?_; rintro e w2 ⟨rfl, hb2⟩
    have HB2 := Lib.hid (HB1.out.trans (hb2.mono HB1.out.size))
    clear hb2
    go_wp2_with fail
    go_ret
    exact ⟨rfl, HB2.out⟩
  have l1 : ¬ (200 : Int) < s.size := by omega
  have HS := Lib.hid (show s.size ≤ 281474976710656 by omega)
  clear hlong
  have HN := Lib.hid (name_any id w1 (HL.out.tab.below HB1.out))
  have HIN : Hid (∀ k, 1 ≤ id → id ≤ 2147483647 → IdOf (nameV id) k → k = id) := fun k h1 h2 hk => hk.unique (.inl ⟨h1, h2, rfl⟩)
  have HCZ : Hid (codeN id = 0 → 1 ≤ id ∧ id ≤ 2147483647) := fun h => codeN_zero h
  have HCO := Lib.hid (codeN_or id)
  have HSZ : Hid ((nameV id).size ≤ 281474976710656) := by show _ ≤ _; have := nameV_size id; omega
  have HR := Lib.hid (fun W => refName_any id W)
  obtain ⟨cn, hcn⟩ : ∃ cn, cn = codeN id := ⟨_, rfl⟩
  rw [← hcn] at HN HR HCZ HCO
  generalize nameV id = nm at *
  clear hcn
  go_wp2_with fail
  refine HN.out.mono ?_; rintro e w2 ⟨rfl, hb2⟩
  have HB2 := Lib.hid (HB1.out.trans (hb2.mono HB1.out.size))
  clear hb2 HN
  go_wp2_with fail
  refine (HR.out w2).mono ?_; rintro e w3 ⟨rfl, hb3⟩
  have HB3 := Lib.hid (HB2.out.trans (hb3.mono HB2.out.size))
  clear hb3 HR
  go_wp2_with fail
  refine (id_any s w3 HS.out (HL.out.below HB3.out)).mono ?_; rintro e w4 ⟨k, rfl, hk, hb4⟩
  have HB4 := Lib.hid (HB3.out.trans (hb4.mono HB3.out.size))
  have HK := Lib.hid hk
  clear hb4 hk
  go_wp2_with fail
  refine (refID_any s w4 hs).mono ?_; rintro e w5 ⟨k', rfl, hk', hb5⟩
  obtain rfl := hk'.unique HK.out
  have HB5 := Lib.hid (HB4.out.trans (hb5.mono HB4.out.size))
  clear hb5 hk'
  rcases HCO.out with hc | hc
  · subst hc
    obtain ⟨i1, i2⟩ := HCZ.out rfl
    have HI1 := Lib.hid (show 1 ≤ id ∧ id ≤ 2147483647 from ⟨i1, i2⟩)
    clear i1 i2
    by_cases hkp : 0 < k'
    · rw [show decide (0 < k') = true by simpa using hkp]
      go_wp2_with fail
      refine (id_any nm w5 HSZ.out (HL.out.below HB5.out)).mono ?_; rintro e w6 ⟨j, rfl, hj, hb6⟩
      obtain rfl := HIN.out j HI1.out.1 HI1.out.2 hj
      have HB6 := Lib.hid (HB5.out.trans (hb6.mono HB5.out.size))
      rw [show decide (0 < j) = true by have := HI1.out.1; simp; omega]
      clear hb6 hj
      go_wp2_with fail
      go_ret
      exact ⟨rfl, HB6.out⟩
    · rw [show decide (0 < k') = false by simpa using hkp]
      go_wp2_with fail
      refine (id_any nm w5 HSZ.out (HL.out.below HB5.out)).mono ?_; rintro e w6 ⟨j, rfl, hj, hb6⟩
      obtain rfl := HIN.out j HI1.out.1 HI1.out.2 hj
      have HB6 := Lib.hid (HB5.out.trans (hb6.mono HB5.out.size))
      rw [show decide (0 < j) = true by have := HI1.out.1; simp; omega]
      clear hb6 hj
      go_wp2_with fail
      go_ret
      exact ⟨rfl, HB6.out⟩
  · subst hc
    by_cases hkp : 0 < k'
    · rw [show decide (0 < k') = true by simpa using hkp]
      go_wp2_with fail
      go_ret
      exact ⟨rfl, HB5.out⟩
    · rw [show decide (0 < k') = false by simpa using hkp]
      go_wp2_with fail
      go_ret
      exact ⟨rfl, HB5.out⟩
end Go.Proofs.YtpfbiijcmmkjlaaDoor
