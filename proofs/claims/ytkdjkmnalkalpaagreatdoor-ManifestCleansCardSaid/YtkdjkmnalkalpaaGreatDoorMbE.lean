/- The reference of layer 5: Good: is it a manifest? The reference of layer 5: Encode: the bytes of a manifest. The reference of layer 5: how Decode goes through the lines. Plain; nothing is walked. The reference of layer 5: Decode: what it answers of any bytes. ManifestBytes, walked: any manifest is written as its bytes and read back, or it is none; of any bytes just a manifest's are read. -/
import Derived.Test.YtkdjkmnalkalpaaGreatDoorMfG
import Derived.Test.YtkdjkmnalkalpaaGreatDoorSgJ
import Derived.Test.YtkdjkmnalkalpaaGreatDoorMfC
import Derived.Test.YtkdjkmnalkalpaaGreatDoorMfF
import Derived.Test.YtkdjkmnalkalpaaGreatDoorFsTp
import Derived.Test.YtkdjkmnalkalpaaGreatDoorMfJ
namespace Go.Proofs.YtkdjkmnalkalpaaGreatDoor
open Go.RowKit
set_option maxRecDepth 100000

def aheadI (ns : List Int) (i : Nat) : Int := if i = 0 then 0 else ns.getD (i - 1) 0
theorem risB_cons' (l x : Int) (r : List Int) : risB l (x :: r) = (decide (l < x) && decide (1 ≤ x ∧ x ≤ 2147483647) && risB x r) := rfl
set_option maxHeartbeats 8000000 in
theorem refGood_any (n : Int) (v : Value) (ns : List Int) (w : World) (hv : IntsW w v ns) (hl : ns.length < 9223372036854775808) :
    Calls Tryz.prog 29 #[.agg #[.int .i64 n, v]] w fun e w' => e = .returned (.bool (decide (GoodM n ns))) ∧ Below w.heap.size w w' := by
  obtain ⟨va, vc, rfl⟩ := hv.slice
  obtain ⟨wx, hwx⟩ : ∃ wx, wx = w.alloc (.cells #[.int .i64 n, .slice va ns.length vc] 48) := ⟨_, rfl⟩
  have hbx : Below w.heap.size w wx := by rw [hwx]; exact (Below.refl _ _).alloc (Nat.le_refl _) _
  have hkx : Blk wx w.heap.size 48 [.int .i64 n, .slice va ns.length vc] := by rw [hwx]; exact Blk.new w _ _
  obtain ⟨b1, hb1⟩ : ∃ b1, b1 = w.heap.size := ⟨_, rfl⟩
  have hb1' := hb1
  rw [← hb1] at hkx
  have HV := Lib.hid hv
  have HBX := Lib.hid hbx
  have HKX := Lib.hid hkx
  have HB1 := Lib.hid hb1'
  clear hv hbx hkx hb1'
  go_enter Tryz.func29, Tryz.ntmps29
  go_upto_region 1 with fail
  rw [← hwx]
  try rw [← hb1]
  clear hwx hb1
  have x0 := HKX.out.cell (i := 0) rfl
  have x1 := HKX.out.cell (i := 1) rfl
  by_cases h1 : 1 ≤ n ∧ n ≤ 2147483647
  · by_cases h2 : 1 ≤ ns.length ∧ ns.length ≤ 32
    · have l1 : ¬ n < 1 := by omega
      have l2 : ¬ n > 2147483647 := by omega
      have l3 : ¬ (ns.length : Int) < 1 := by omega
      have l4 : ¬ (ns.length : Int) > 32 := by omega
      have HCM : Hid (decide (GoodM n ns) = risB 0 ns) := by
        show _ = _
        by_cases h3 : risB 0 ns = true
        · rw [h3, decide_eq_true (show GoodM n ns from ⟨h1, h2, h3⟩)]
        · rw [decide_eq_false (fun h : GoodM n ns => h3 h.2.2)]
          simpa using h3
      have hl32 := h2.2
      go_wp2_with fail
      go_loopw [3, 27] (fun s3 s27 wr => ∃ (i : Nat), i ≤ ns.length ∧ s27 = .int .i64 i ∧ risB (aheadI ns i) (ns.drop i) = risB 0 ns ∧ 0 ≤ aheadI ns i ∧ Below wx.heap.size wx wr)
        (fun _ s27 _ => ns.length - (intOf s27).toNat)
      case atStart => exact ⟨0, by omega, rfl, rfl, by simp [aheadI], Below.refl _ _⟩
      case round =>
        clear x0 x1
        obtain ⟨i, hi, rfl, hr, h0, hb⟩ := hrel
        have HB := Lib.hid hb
        have x0 := (blk_stay hb HKX.out).cell (i := 0) rfl
        have x1 := (blk_stay hb HKX.out).cell (i := 1) rfl
        clear hb
        by_cases hlt : i < ns.length
        · obtain ⟨b, o, cap, e, hbl, hrg⟩ : ∃ b o cap, Value.slice va ns.length vc = .slice (some ⟨b, o, none⟩) ns.length cap ∧ b < w.heap.size ∧ w.rangeAt b o (ns.map (Value.int .i64)) := by
            rcases HV.out with (⟨e, h0⟩ | ⟨b, o, cap, e, h1, h2⟩) | ⟨_, _, _, h0⟩
            · subst h0; simp at hlt
            · exact ⟨b, o, cap, e, h1, h2⟩
            · subst h0; simp at hlt
          cases e
          have hcell : ∀ j, j < ns.length → wr.cell? ⟨b, o + j, none⟩ = some (.int .i64 (ns.getD j 0)) := fun j hj => by
            rw [World.cell?_of_block (w := wx) (HB.out.block b (Nat.lt_of_lt_of_le hbl HBX.out.size)), World.cell?_of_block (w := w) (HBX.out.block b hbl)]
            exact hrg j _ (by rw [List.getElem?_map, List.getD_eq_getElem?_getD, List.getElem?_eq_getElem hj]; rfl)
          have hc := hcell i hlt
          have hdr : ns.drop i = ns.getD i 0 :: ns.drop (i + 1) := by rw [List.drop_eq_getElem_cons hlt, List.getD_eq_getElem?_getD, List.getElem?_eq_getElem hlt]; rfl
          have hah : aheadI ns (i + 1) = ns.getD i 0 := by simp [aheadI]
          rw [hdr, risB_cons'] at hr
          have hll : (i : Int) < ns.length := by omega
          have HAH := Lib.hid hah
          have hbd : ∀ k, Below wx.heap.size wx (wr.drewN k) := fun k => Below.drewN HB.out k
          have HBD := Lib.hid hbd
          have done : ∀ x : Int, x = ns.getD i 0 → (x < 1 ∨ x > 2147483647 ∨ x ≤ aheadI ns i) → decide (GoodM n ns) = false := fun x hx hbad => by
            rw [HCM.out, ← hr]
            rw [hx] at hbad
            by_cases q : ns.getD i 0 ≤ aheadI ns i
            · rw [decide_eq_false (by omega)]; rfl
            · rw [decide_eq_false (show ¬ (1 ≤ ns.getD i 0 ∧ ns.getD i 0 ≤ 2147483647) by omega)]; simp
          have next : ∀ x : Int, x = ns.getD i 0 → 1 ≤ x → x ≤ 2147483647 → aheadI ns i < x → risB (aheadI ns (i + 1)) (ns.drop (i + 1)) = risB 0 ns ∧ 0 ≤ aheadI ns (i + 1) := fun x hx q1 q2 q3 => by
            rw [HAH.out, ← hx]
            rw [← hx, decide_eq_true q3, decide_eq_true (And.intro q1 q2)] at hr
            exact ⟨by simpa using hr, by omega⟩
          have HDN := Lib.hid done
          have HNX := Lib.hid next
          clear done next hr hdr hah hbd
          obtain ⟨x, hx⟩ : ∃ x, x = ns.getD i 0 := ⟨_, rfl⟩
          rw [← hx] at hc
          have HX := Lib.hid hx
          clear hx
          by_cases hi0 : i = 0
          · have li : ¬ (i : Int) > 0 := by omega
            have HE0 : Hid (aheadI ns i = 0) := by show _ = _; simp [aheadI, hi0]
            have li2 : decide ((i : Int) > 0) = false := by simpa using hi0
            have li3 : decide (0 < i) = false := by simp [hi0]
            clear hcell hi0 li
            by_cases q1 : x < 1
            · have HE := Lib.hid (HDN.out x HX.out (.inl q1))
              go_upto_region 6 with fail
              go_quiet (fail)
              go_wp2_with fail
              go_ret
              exact ⟨by rw [HE.out]; rfl, HBX.out.trans ((HBD.out _).mono HBX.out.size)⟩
            · by_cases q2 : x > 2147483647
              · have HE := Lib.hid (HDN.out x HX.out (.inr (.inl q2)))
                go_upto_region 6 with fail
                go_quiet (fail)
                go_wp2_with fail
                go_ret
                exact ⟨by rw [HE.out]; rfl, HBX.out.trans ((HBD.out _).mono HBX.out.size)⟩
              · have HN := Lib.hid (HNX.out x HX.out (by omega) (by omega) (by rw [HE0.out]; omega))
                go_upto_region 6 with fail
                go_quiet (fail)
                go_wp2_with fail
                go_roundw
                case rel => exact ⟨i + 1, by omega, by go_num, HN.out.1, HN.out.2, HBD.out _⟩
                case measure => simp [intOf]; omega
          · have li3 : decide (0 < i) = true := by simp; omega
            have hp := hcell (i - 1) (by omega)
            have HEP : Hid (aheadI ns i = ns.getD (i - 1) 0) := by show _ = _; simp [aheadI, hi0]
            obtain ⟨y, hy⟩ : ∃ y, y = ns.getD (i - 1) 0 := ⟨_, rfl⟩
            rw [← hy] at hp HEP
            have hI1 : (1 : Int) ≤ i := by omega
            clear hcell hi0 hy
            by_cases q1 : x < 1
            · have HE := Lib.hid (HDN.out x HX.out (.inl q1))
              go_upto_region 6 with fail
              go_quiet (fail)
              go_wp2_with fail
              go_ret
              exact ⟨by rw [HE.out]; rfl, HBX.out.trans ((HBD.out _).mono HBX.out.size)⟩
            · by_cases q2 : x > 2147483647
              · have HE := Lib.hid (HDN.out x HX.out (.inr (.inl q2)))
                go_upto_region 6 with fail
                go_quiet (fail)
                go_wp2_with fail
                go_ret
                exact ⟨by rw [HE.out]; rfl, HBX.out.trans ((HBD.out _).mono HBX.out.size)⟩
              · by_cases q3 : x ≤ y
                · have HE := Lib.hid (HDN.out x HX.out (.inr (.inr (by rw [HEP.out]; exact q3))))
                  go_upto_region 6 with fail
                  go_quiet (fail)
                  go_wp2_with fail
                  go_ret
                  exact ⟨by rw [HE.out]; rfl, HBX.out.trans ((HBD.out _).mono HBX.out.size)⟩
                · have HN := Lib.hid (HNX.out x HX.out (by omega) (by omega) (by rw [HEP.out]; omega))
                  go_upto_region 6 with fail
                  go_quiet (fail)
                  go_wp2_with fail
                  go_roundw
                  case rel => exact ⟨i + 1, by omega, by go_num, HN.out.1, HN.out.2, HBD.out _⟩
                  case measure => simp [intOf]; omega
        · have hf : risB 0 ns = true := by
            rw [← hr, List.drop_eq_nil_of_le (by omega)]
            rfl
          have HE : Hid (decide (GoodM n ns) = true) := by show _ = _; rw [HCM.out, hf]
          have hll : ¬ (i : Int) < ns.length := by omega
          clear hr hf
          go_wp2_with fail
          go_ret
          exact ⟨by rw [HE.out]; rfl, HBX.out.trans (HB.out.mono HBX.out.size)⟩
    · have HE : Hid (decide (GoodM n ns) = false) := by show _ = _; exact decide_eq_false fun h => h2 h.2.1
      have l1 : ¬ n < 1 := by omega
      have l2 : ¬ n > 2147483647 := by omega
      by_cases h3 : ns.length < 1
      · have l3 : (ns.length : Int) < 1 := by omega
        go_wp2_with fail
        go_ret
        exact ⟨by rw [HE.out]; rfl, HBX.out⟩
      · have l3 : ¬ (ns.length : Int) < 1 := by omega
        have l4 : (ns.length : Int) > 32 := by omega
        go_wp2_with fail
        go_ret
        exact ⟨by rw [HE.out]; rfl, HBX.out⟩
  · have HE : Hid (decide (GoodM n ns) = false) := by show _ = _; exact decide_eq_false fun h => h1 h.1
    by_cases h3 : n < 1
    · go_wp2_with fail
      go_ret
      exact ⟨by rw [HE.out]; rfl, HBX.out⟩
    · have l2 : n > 2147483647 := by omega
      go_wp2_with fail
      go_ret
      exact ⟨by rw [HE.out]; rfl, HBX.out⟩
end Go.Proofs.YtkdjkmnalkalpaaGreatDoor
namespace Go.Proofs.YtkdjkmnalkalpaaGreatDoor
open Go.RowKit
set_option maxRecDepth 100000

theorem strSize (p : List Int) : (strOfNums p).size = p.length := by first | exact strOfNums_size p | exact Fr.strOfNums_size p
theorem lineI_str (n : Int) : strOfNums (lineI n) = dgS n.toNat ++ ⟨#[10]⟩ := by
  unfold lineI
  rw [Fr.strOfNums_append, digI_str]
  rfl
theorem risB_at {l : Int} {ns : List Int} (h : risB l ns = true) {i : Nat} (hi : i < ns.length) : 1 ≤ ns.getD i 0 ∧ ns.getD i 0 ≤ 2147483647 := by
  have := risB_mem h (ns[i]) (List.getElem_mem hi)
  rw [List.getD_eq_getElem?_getD, List.getElem?_eq_getElem hi]
  exact this
set_option maxHeartbeats 8000000 in
theorem refEncode5_any (n : Int) (v : Value) (ns : List Int) (w : World) (hv : Ints w v ns) (hg : GoodM n ns) :
    Calls Tryz.prog 32 #[.agg #[.int .i64 n, v]] w fun e w' => e = .returned (.string (strOfNums (manB n ns))) ∧ Below w.heap.size w w' := by
  obtain ⟨va, vc, rfl⟩ := hv.slice
  obtain ⟨wx, hwx⟩ : ∃ wx, wx = w.alloc (.cells #[.int .i64 n, .slice va ns.length vc] 48) := ⟨_, rfl⟩
  have hbx : Below w.heap.size w wx := by rw [hwx]; exact (Below.refl _ _).alloc (Nat.le_refl _) _
  have hkx : Blk wx w.heap.size 48 [.int .i64 n, .slice va ns.length vc] := by rw [hwx]; exact Blk.new w _ _
  obtain ⟨b1, hb1⟩ : ∃ b1, b1 = w.heap.size := ⟨_, rfl⟩
  rw [← hb1] at hkx
  have HV := Lib.hid hv
  have HG := Lib.hid hg
  have HBX := Lib.hid hbx
  have HKX := Lib.hid hkx
  have HD := Lib.hid (fun (x : Int) (hx : 1 ≤ x ∧ x ≤ 2147483647) (W : World) => show Calls Tryz.prog 37 #[.int .i64 x] W fun e w' => e = .returned (.string (dgS x.toNat)) ∧ Below W.heap.size W w' from by
    have := refDigits_any x.toNat (by omega) W
    rw [show ((x.toNat : Nat) : Int) = x by omega] at this
    exact this)
  clear hv hbx hkx hg
  have hn := HG.out.1
  go_enter Tryz.func32, Tryz.ntmps32
  go_upto_region 1 with fail
  rw [← hwx]
  try rw [← hb1]
  clear hwx hb1
  have x0 := HKX.out.cell (i := 0) rfl
  have x1 := HKX.out.cell (i := 1) rfl
  have HDN := Lib.hid (HD.out n hn wx)
  have hz := dgS_size (n := n.toNat) (by omega)
  have z0 : ¬ 9223372036854775807 < (dgS n.toNat).size + 1 := by omega
  clear hz
  go_wp2_with fail
  refine HDN.out.mono ?_; rintro e w1 ⟨rfl, hb1⟩
  have HB1 := Lib.hid hb1
  clear HDN x0 x1
  have x1 := (blk_stay hb1 HKX.out).cell (i := 1) rfl
  clear hb1
  clear hn
  obtain ⟨s0, hs0⟩ : ∃ s0, s0 = dgS n.toNat ++ ⟨#[10]⟩ := ⟨_, rfl⟩
  have HS0 : Hid (s0 = strOfNums (lineI n ++ linesI (ns.take 0))) := by show _ = _; rw [hs0, ← lineI_str]; simp [linesI]
  go_upto_region 3 with fail
  rw [← hs0]
  clear hs0 x1 z0
  go_loopw [3, 4, 14] (fun s3 s4 s14 wr => ∃ (i : Nat) (s : ByteArray), i ≤ ns.length ∧ s3 = .string s ∧ s14 = .int .i64 i ∧ s = strOfNums (lineI n ++ linesI (ns.take i)) ∧ Below wx.heap.size wx wr)
    (fun _ _ s14 _ => ns.length - (intOf s14).toNat)
  case atStart => exact ⟨0, s0, by omega, rfl, rfl, HS0.out, HB1.out⟩
  case round =>
    obtain ⟨i, s, hi, rfl, rfl, hs, hb⟩ := hrel
    have HB := Lib.hid hb
    have HS := Lib.hid hs
    have x1 := (blk_stay hb HKX.out).cell (i := 1) rfl
    have hl32 := HG.out.2.1.2
    clear hb hs
    by_cases hlt : i < ns.length
    · obtain ⟨b, o, cap, e, hbl, hrg⟩ : ∃ b o cap, Value.slice va ns.length vc = .slice (some ⟨b, o, none⟩) ns.length cap ∧ b < w.heap.size ∧ w.rangeAt b o (ns.map (Value.int .i64)) := by
        rcases HV.out with ⟨e, h0⟩ | ⟨b, o, cap, e, h1, h2⟩
        · subst h0; simp at hlt
        · exact ⟨b, o, cap, e, h1, h2⟩
      cases e
      have hc : wr.cell? ⟨b, o + i, none⟩ = some (.int .i64 (ns.getD i 0)) := by
        rw [World.cell?_of_block (w := wx) (HB.out.block b (Nat.lt_of_lt_of_le hbl HBX.out.size)), World.cell?_of_block (w := w) (HBX.out.block b hbl)]
        exact hrg i _ (by rw [List.getElem?_map, List.getD_eq_getElem?_getD, List.getElem?_eq_getElem hlt]; rfl)
      have htk : ns.take (i + 1) = ns.take i ++ [ns.getD i 0] := by rw [List.take_succ_eq_append_getElem hlt, List.getD_eq_getElem?_getD, List.getElem?_eq_getElem hlt]; rfl
      have HDX := Lib.hid (HD.out _ (risB_at HG.out.2.2 hlt) wr)
      have hz := dgS_size (n := (ns.getD i 0).toNat) (by have := (risB_at HG.out.2.2 hlt).2; omega)
      have hsz : s.size ≤ 1000 := by
        rw [HS.out, strSize, List.length_append]
        have q1 := lineI_len HG.out.1.2
        have q2 := linesI_len (ns := ns.take i) (fun x hx => (risB_mem HG.out.2.2 x (List.mem_of_mem_take hx)).2)
        rw [List.length_take] at q2
        omega
      have HNS : Hid (s ++ dgS (ns.getD i 0).toNat ++ ⟨#[10]⟩ = strOfNums (lineI n ++ linesI (ns.take (i + 1)))) := by
        show _ = _
        rw [htk, linesI_snoc, ← List.append_assoc, Fr.strOfNums_append, ← HS.out, lineI_str, ByteArray.append_assoc]
      have hll : (i : Int) < ns.length := by omega
      generalize ns.getD i 0 = x at *
      generalize dgS x.toNat = d at *
      have z1 : ¬ 9223372036854775807 < s.size + d.size := by omega
      have z2 : ¬ 9223372036854775807 < s.size + d.size + 1 := by omega
      clear hrg htk hbl hz hsz
      go_wp2_with fail
      refine HDX.out.mono ?_; rintro e w2 ⟨rfl, hb2⟩
      have HB2 := Lib.hid (HB.out.trans (hb2.mono HB.out.size))
      clear hb2 HDX hc x1
      go_wp2_with fail
      go_roundw
      case rel => exact ⟨i + 1, _, by omega, rfl, by go_num, HNS.out, HB2.out⟩
      case measure => simp [intOf]; omega
    · have hll : ¬ (i : Int) < ns.length := by omega
      have hst : s = strOfNums (textM n ns) := by rw [HS.out, List.take_of_length_le (by omega)]; rfl
      have HRE := Lib.hid (Fr.refEncode_any 9 (textM n ns) wr (by omega) (by omega) (fun x hx => (List.mem_append.1 hx).elim (lineI_byt n x) (linesI_byt ns x)) (by have := textM_len HG.out; omega))
      rw [← hst] at HRE
      clear hst
      go_wp2_with fail
      refine HRE.out.mono ?_; rintro e w2 ⟨rfl, hb2⟩
      go_wp2_with fail
      go_ret
      exact ⟨rfl, HBX.out.trans ((HB.out.trans (hb2.mono HB.out.size)).mono HBX.out.size)⟩
end Go.Proofs.YtkdjkmnalkalpaaGreatDoor
namespace Go.Proofs.YtkdjkmnalkalpaaGreatDoor
set_option maxRecDepth 100000

def refP : List Int → List Int → Int → Nat → Option (List Int)
  | [], l, _, _ => some l
  | c :: r, l, n, d => if c = 10 then refP r (l ++ [n]) 0 0 else if c < 48 ∨ c > 57 ∨ d > 9 then none else refP r l (n * 10 + (c - 48)) (d + 1)
theorem refP_dig {c : Int} (h : 48 ≤ c ∧ c ≤ 57) {d : Nat} (hd : d ≤ 9) (r l : List Int) (n : Int) : refP (c :: r) l n d = refP r l (n * 10 + (c - 48)) (d + 1) := by
  rw [refP, if_neg (by omega), if_neg (by omega)]
theorem refP_digits (n : Nat) : ∀ (r l : List Int), (intsOf (Lib.decDigits n)).length ≤ 10 → refP (intsOf (Lib.decDigits n) ++ r) l 0 0 = refP r l n (intsOf (Lib.decDigits n)).length := by
  induction n using Nat.strongRecOn with
  | ind n ih =>
    intro r l hlen
    by_cases h10 : n < 10
    · have e : intsOf (Lib.decDigits n) = [48 + (n : Int)] := by
        rw [Lib.decDigits, dif_pos h10]
        unfold intsOf
        simp
        omega
      rw [e]
      show refP ((48 + (n : Int)) :: r) l 0 0 = _
      rw [refP_dig (by omega) (by omega)]
      show refP r l (0 * 10 + (48 + (n : Int) - 48)) 1 = refP r l n 1
      rw [show (0 * 10 + (48 + (n : Int) - 48)) = n by omega]
    · have e : intsOf (Lib.decDigits n) = intsOf (Lib.decDigits (n / 10)) ++ [48 + ((n % 10 : Nat) : Int)] := by
        rw [Lib.decDigits, dif_neg h10]
        unfold intsOf
        simp
        omega
      rw [e] at hlen ⊢
      rw [List.length_append] at hlen ⊢
      simp only [List.length_cons, List.length_nil] at hlen ⊢
      rw [List.append_assoc, ih (n / 10) (by omega) _ l (by omega)]
      show refP ((48 + ((n % 10 : Nat) : Int)) :: r) l _ _ = _
      rw [refP_dig (by omega) (by omega)]
      congr 1
      omega
theorem refP_line {x : Int} (h : 1 ≤ x ∧ x ≤ 2147483647) (r l : List Int) : refP (lineI x ++ r) l 0 0 = refP r (l ++ [x]) 0 0 := by
  have hl := digI_len h.2
  unfold lineI digI at *
  rw [List.append_assoc, refP_digits _ _ _ hl]
  show refP (10 :: r) l _ _ = _
  rw [refP, if_pos rfl, show ((x.toNat : Nat) : Int) = x by omega]
theorem refP_lines : ∀ (ns l : List Int), (∀ x ∈ ns, 1 ≤ x ∧ x ≤ 2147483647) → refP (linesI ns) l 0 0 = some (l ++ ns)
  | [], l, _ => by simp [linesI, refP]
  | x :: ns, l, h => by
    have e : linesI (x :: ns) = lineI x ++ linesI ns := by unfold linesI; simp
    rw [e, refP_line (h x (by simp)), refP_lines ns _ (fun y hy => h y (by simp [hy]))]
    simp
theorem refP_text {n : Int} {ns : List Int} (h : GoodM n ns) : refP (textM n ns) [] 0 0 = some (n :: ns) := by
  unfold textM
  rw [refP_line h.1, refP_lines ns _ (risB_mem h.2.2)]
  rfl
end Go.Proofs.YtkdjkmnalkalpaaGreatDoor
namespace Go.Proofs.YtkdjkmnalkalpaaGreatDoor
open Go.RowKit
set_option maxRecDepth 100000

theorem decM_back {b : List Int} {n : Int} {ns : List Int} (h : decM b = some (n, ns)) : Fr.decodeI b = (9, textM n ns, 0) ∧ refP (textM n ns) [] 0 0 = some (n :: ns) := by
  obtain ⟨hg, hm⟩ := decM_some h
  rw [← hm]
  exact ⟨Fr.decodeI_frame (by decide) (by decide) (textM_byt n ns) (by have := textM_len hg; omega), refP_text hg⟩
theorem decM_off {b q : List Int} {kd cd : Int} (hd : Fr.decodeI b = (kd, q, cd)) (h : cd ≠ 0 ∨ kd ≠ 9) : decM b = none := by
  cases hm : decM b with
  | none => rfl
  | some p =>
    obtain ⟨n, ns⟩ := p
    have h1 := (decM_back hm).1
    rw [hd] at h1
    injection h1 with a1 a2
    injection a2 with a2 a3
    rcases h with h | h
    · exact absurd a3 h
    · exact absurd a1 h
theorem decM_list {b q : List Int} {kd cd : Int} (hd : Fr.decodeI b = (kd, q, cd)) {x : Option (List Int)} (hx : refP q [] 0 0 = x) (h : ∀ n ns, x = some (n :: ns) → ns ≠ [] → ¬ (GoodM n ns ∧ manB n ns = b)) : decM b = none := by
  cases hm : decM b with
  | none => rfl
  | some p =>
    obtain ⟨n, ns⟩ := p
    have h1 := decM_back hm
    rw [hd] at h1
    obtain ⟨h2, h3⟩ := h1
    injection h2 with a1 a2
    injection a2 with a2 a3
    rw [← a2, hx] at h3
    have hg := decM_some hm
    exact absurd hg (h n ns h3 (by rintro rfl; have := hg.1.2.1; simp at this))
theorem decM_good {b : List Int} {n : Int} {ns : List Int} (hg : GoodM n ns) (he : manB n ns = b) : decM b = some (n, ns) := he ▸ decM_enc hg
theorem pow_small {d : Nat} (h : d ≤ 9) : (10 : Nat) ^ d ≤ 1000000000 := by
  have := Nat.pow_le_pow_right (n := 10) (by omega) h
  omega
theorem u8_less {c : Int} (h : 48 ≤ c ∧ c ≤ 255) : IntKind.u8.wrap (c - 48) = c - 48 := IntWalk.u8_in _ (by omega)
theorem OwnI.cap {base : Nat} {w : World} {a : Option Addr} {c n : Nat} {ys : List Int} (h : OwnI base w (.slice a n c) ys) : ys.length ≤ c := by
  rcases h.2 with ⟨e, h0⟩ | ⟨x, cap, cur, e, _, _, h1, _⟩
  · injection e with _ _ e3; omega
  · injection e with _ _ e3; omega
theorem OwnI.at {base : Nat} {w : World} {v : Value} {a : Int} {ys : List Int} (h : OwnI base w v (a :: ys)) : IntsAt w base v (a :: ys) := by
  rcases h.2 with ⟨rfl, h0⟩ | ⟨x, cap, cur, rfl, hge, hh, h1, h2, h3, h4⟩
  · cases h0
  · refine ⟨x, 0, cap, rfl, hge, (Array.getElem?_eq_some_iff.1 hh).1, fun j u hu => ?_⟩
    have hj : j < (a :: ys).length := by have := (List.getElem?_eq_some_iff.1 hu).1; simpa using this
    rw [← h4, List.getElem?_take_of_lt (by omega)] at hu
    rw [Nat.zero_add, cell_of_row w x j cur _ _ hh, ← Array.getElem?_toList]; exact hu
theorem ints_tail {w : World} {B : Nat} {a : Int} {r : List Int} {va : Option Addr} {vc : Nat} (h : IntsAt w B (.slice va (r.length + 1) vc) (a :: r)) (hc : r.length + 1 ≤ vc) (hr : 1 ≤ r.length) :
    ∃ b o ta tc, va = some ⟨b, o, none⟩ ∧ b < w.heap.size ∧ w.cell? ⟨b, o, none⟩ = some (.int .i64 a) ∧ (∀ W : World, (Instr.slice 31 (.slice va (r.length + 1) vc) (some (.int .i64 1)) none none).run Tryz.prog W = .ok (.slice ta r.length tc) W) ∧ IntsAt w B (.slice ta r.length tc) r := by
  obtain ⟨b, o, cap, e, hB, hb, hrg⟩ := h
  injection e with e1 e2 e3
  subst e1 e3
  refine ⟨b, o, some ⟨b, o + 1, none⟩, vc - 1, rfl, hb, hrg 0 _ rfl, fun W => ?_, ⟨b, o + 1, vc - 1, rfl, hB, hb, fun j u hu => ?_⟩⟩
  · rw [run_slice_l W 31 _ (r.length + 1) vc (by exact Tryz.underlying31) .i64 1 (by omega) (by omega)]
    rw [show Tryz.prog.elem 31 = 3 from by kernel_rfl, Tryz.sizeOf3]
    simp only [Result.andThen_ok, sliced]
    rw [if_neg (show ¬ vc = (1 : Int).toNat by simp; omega)]
    rfl
  · have := hrg (j + 1) u (by simpa using hu)
    rw [show o + (j + 1) = o + 1 + j by omega] at this
    exact this
def RDecQ (w : World) (b : List Int) (e : Ending) (w' : World) : Prop :=
  Below w.heap.size w w' ∧ ((∃ n ns u, decM b = some (n, ns) ∧ e = .returned (.tuple #[.agg #[.int .i64 n, u], .bool true]) ∧ Ints w' u ns) ∨ (decM b = none ∧ e = .returned (.tuple #[.agg #[.int .i64 0, .slice none 0 0], .bool false])))
set_option maxHeartbeats 16000000 in
theorem refDecode5_any (b : List Int) (w : World) (hy : Fr.Byt b) (hl : b.length ≤ 100000) :
    Calls Tryz.prog 33 #[.string (strOfNums b)] w (RDecQ w b) := by
  obtain ⟨wx, hwx⟩ : ∃ wx, wx = w.alloc (.cells #[.int .i64 0, .slice none 0 0] 48) := ⟨_, rfl⟩
  have hbx : Below w.heap.size w wx := by rw [hwx]; exact (Below.refl _ _).alloc (Nat.le_refl _) _
  have hkx : Blk wx w.heap.size 48 [.int .i64 0, .slice none 0 0] := by rw [hwx]; exact Blk.new w _ _
  have HRD := Lib.hid (Fr.refDecode_any b wx hy hl)
  obtain ⟨hpb, hpl⟩ := payload_byt hy
  obtain ⟨kd, q, cd, hdq⟩ : ∃ kd q cd, Fr.decodeI b = (kd, q, cd) := ⟨_, _, _, rfl⟩
  have HOFF := Lib.hid (fun h => decM_off hdq h)
  have HLIST := Lib.hid (fun (x : Option (List Int)) (hx : refP q [] 0 0 = x) h => decM_list hdq hx h)
  rw [hdq] at HRD hpb hpl
  clear hdq
  simp only at HRD hpb hpl
  obtain ⟨bs, hbs⟩ : ∃ bs, bs = strOfNums b := ⟨_, rfl⟩
  rw [← hbs] at HRD ⊢
  have HBS := Lib.hid hbs
  have HBX := Lib.hid hbx
  have HKX := Lib.hid hkx
  have HB := Lib.hid hy
  have HPB := Lib.hid hpb
  have HPL := Lib.hid (show q.length ≤ 100000 by omega)
  clear hy hl hbx hkx hpb hpl hbs
  go_enter Tryz.func33, Tryz.ntmps33
  go_upto_region 1 with fail
  rw [← hwx]
  clear hwx
  go_wp2_with fail
  refine HRD.out.mono ?_; rintro e w1 ⟨rfl, hb1⟩
  have HB1 := Lib.hid (HBX.out.trans (hb1.mono HBX.out.size))
  have HK1 := Lib.hid (blk_stay hb1 HKX.out)
  clear hb1 HRD HKX HBX
  obtain ⟨S, hS⟩ : ∃ S, S = strOfNums q := ⟨_, rfl⟩
  have hSz : S.size = q.length := by rw [hS]; exact strSize q
  have HS := Lib.hid hS
  rw [← hS]
  clear hS
  go_upto_region 2 with fail
  refine Fr.wp_world fun w2 hw2 => ?_
  have hb12 : Below w1.heap.size w1 w2 := by rw [hw2]; exact (Below.refl _ _).alloc (Nat.le_refl _) _
  have hkf : Blk w2 w1.heap.size 169 [.int .i64 kd, .string S] := by rw [hw2]; exact Blk.new w1 _ _
  have HB2 := Lib.hid (HB1.out.trans (hb12.mono HB1.out.size))
  have HZ2 : Hid (w.heap.size + 1 ≤ w2.heap.size) := by show _ ≤ _; have := HK1.out.lt; have := hb12.size; omega
  have HK2 := Lib.hid (blk_stay hb12 HK1.out)
  have HKF := Lib.hid hkf
  obtain ⟨bf, hbf⟩ : ∃ bf, bf = w1.heap.size := ⟨_, rfl⟩
  rw [← hbf] at hkf HKF
  try rw [← hbf]
  have f0 := hkf.cell (i := 0) rfl
  have f1 := hkf.cell (i := 1) rfl
  clear hw2 hb12 HB1 HK1 hbf hkf
  by_cases hc : cd = 0
  · by_cases hk : kd = 9
    · subst hc hk
      clear HOFF
      go_wp2_with fail
      go_loopw [6, 7, 8, 9, 10] (fun s6 s7 s8 s9 _ wr => ∃ (i : Nat) (l : List Int) (n : Int) (d : Nat) (la : Option Addr) (lc : Nat), i ≤ q.length ∧ s6 = .slice la l.length lc ∧ s7 = .int .i64 n ∧ s8 = .int .i64 d ∧ s9 = .int .i64 i ∧ OwnI w2.heap.size wr (.slice la l.length lc) l ∧ refP (q.drop i) l n d = refP q [] 0 0 ∧ 0 ≤ n ∧ n.toNat < 10 ^ d ∧ d ≤ 10 ∧ l.length ≤ i ∧ Below w2.heap.size w2 wr) (fun _ _ _ s9 _ _ => q.length - (intOf s9).toNat)
      case atStart => exact ⟨0, [], 0, 0, none, 0, by omega, rfl, rfl, rfl, rfl, World.ownsRow_nil _ _ _ _, by simp, by omega, by simp, by omega, by simp, Below.refl _ _⟩
      case round =>
        clear f0 f1
        obtain ⟨i, l, n, d, la, lc, hi, rfl, rfl, rfl, rfl, ho, hr, hn0, hn1, hd, hll, hb⟩ := hrel
        have HO := Lib.hid ho
        have HR := Lib.hid hr
        have HBR := Lib.hid hb
        have f1 := (blk_stay hb HKF.out).cell (i := 1) rfl
        have hqs := HPL.out
        clear ho hr hb
        by_cases hlt : i < q.length
        · have li : (i : Int) < S.size := by omega
          have hat : ∀ W, (Instr.index 9 (.string S) (.int .i64 i)).run Tryz.prog W = .ok (.int .u8 (q.getD i 0)) W := fun W => by rw [HS.out]; exact Fr.str_at q HPB.out i hlt W
          have hdr : q.drop i = q.getD i 0 :: q.drop (i + 1) := by rw [List.drop_eq_getElem_cons hlt, List.getD_eq_getElem?_getD, List.getElem?_eq_getElem hlt]; rfl
          have hcb := HPB.out.getD i
          have HRR : Hid (refP (q.getD i 0 :: q.drop (i + 1)) l n d = refP q [] 0 0) := by show _ = _; rw [← hdr]; exact HR.out
          generalize q.getD i 0 = c at *
          clear hdr HR
          by_cases h10 : c = 10
          · subst h10
            have HNX : Hid (refP (q.drop (i + 1)) (l ++ [n]) 0 0 = refP q [] 0 0) := by show _ = _; rw [← HRR.out, refP, if_pos rfl]
            have hbw : Below w2.heap.size w2 (wr.alloc (.cells #[.int .i64 n] 3)) := HBR.out.alloc HBR.out.size _
            have hown : OwnI w2.heap.size (wr.alloc (.cells #[.int .i64 n] 3)) (.slice la l.length lc) l := Fr.ownsRow_keep HO.out ((Below.refl _ _).alloc (Nat.le_refl _) _)
            have hkn := Blk.new wr 3 [.int .i64 n]
            have hpl : RPlan (wr.alloc (.cells #[.int .i64 n] 3)) (.slice (some ⟨wr.heap.size, 0, none⟩) 1 1) [n] := .inr (.inr ⟨wr.heap.size, 0, 1, rfl, by simp, by simp, fun j v hv => by
              rw [Nat.zero_add]
              exact hkn.cell hv⟩)
            have HBW := Lib.hid hbw
            have HOW := Lib.hid hown
            have HPW := Lib.hid hpl
            clear hbw hown hkn hpl
            go_wp2_with (with_reducible refine wpList_append_ints rfl (.tmp 38) (.tmp 40) rfl w2.heap.size (.slice la l.length lc) (.slice (some ⟨wr.heap.size, 0, none⟩) 1 1) l [n] ?_ HOW.out ?_ HPW.out ?_ ?_ ?_ ?_)
            case refine_1 => rfl
            case refine_2 => rfl
            case refine_3 => exact Below.refl _ _
            case refine_4 => simp; omega
            case refine_5 => exact HBW.out.size
            intro v3 w3 ho3 hg3
            have hb3 : Below w2.heap.size w2 w3 := HBW.out.trans ((Below.refl _ _).grown hg3 HBW.out.size fun k hk => (World.ownsRow.lt HOW.out k hk).1)
            obtain ⟨l3, hl3⟩ : ∃ l3, l3 = l ++ [n] := ⟨_, rfl⟩
            have hz3 : l3.length = l.length + 1 := by rw [hl3]; simp
            rw [← hl3] at ho3 HNX
            obtain ⟨la3, lc3, rfl⟩ := ho3.slice
            have HO3 := Lib.hid ho3
            have HB3 := Lib.hid hb3
            clear ho3 hb3 hg3 HOW HPW HBW hl3
            go_wp2_with fail
            go_roundw
            case rel => exact ⟨i + 1, l3, 0, 0, la3, lc3, by omega, rfl, rfl, rfl, by go_num, HO3.out, HNX.out, by omega, by simp, by omega, by omega, HB3.out⟩
            case measure => simp [intOf]; omega
          · have h10' : (c == 10) = false := by simpa using h10
            by_cases hbad : c < 48 ∨ c > 57 ∨ d > 9
            · have HE := Lib.hid (HLIST.out none (by rw [← HRR.out, refP, if_neg h10, if_pos hbad]) (fun _ _ h => by cases h))
              have x0 := (blk_stay HBR.out HK2.out).cell (i := 0) rfl
              have x1 := (blk_stay HBR.out HK2.out).cell (i := 1) rfl
              have g0 := (blk_stay HBR.out HK2.out).frozen 0
              have g1 := (blk_stay HBR.out HK2.out).frozen 1
              have HBB := Lib.hid (HB2.out.trans (HBR.out.mono HB2.out.size))
              have hor : c < 48 ∨ (¬ c < 48 ∧ c > 57) ∨ (¬ c < 48 ∧ ¬ c > 57 ∧ (d : Int) > 9) := by omega
              clear hbad
              rcases hor with l1 | ⟨l1, l2⟩ | ⟨l1, l2, l3⟩
              all_goals
                go_wp2_with fail
                refine bodyPost_ret (v := .tuple #[.agg #[.int .i64 0, .slice none 0 0], .bool false]) (by simp [results, Tryz.results33, go_sem, x0, x1]) rfl ?_
                exact ⟨(HBB.out.setCell (p := ⟨w.heap.size, 0, none⟩) (Nat.le_refl _) _).setCell (p := ⟨w.heap.size, 1, none⟩) (Nat.le_refl _) _, .inr ⟨HE.out, rfl⟩⟩
            · have l1 : ¬ c < 48 := by omega
              have l2 : ¬ c > 57 := by omega
              have l3 : ¬ (d : Int) > 9 := by omega
              have HNX : Hid (refP (q.drop (i + 1)) l (n * 10 + (c - 48)) (d + 1) = refP q [] 0 0) := by show _ = _; rw [← HRR.out, refP, if_neg h10, if_neg hbad]
              have hp9 := pow_small (d := d) (by omega)
              have hp1 : (10 : Nat) ^ (d + 1) = 10 ^ d * 10 := Nat.pow_succ ..
              have HN : Hid (0 ≤ n * 10 + (c - 48) ∧ (n * 10 + (c - 48)).toNat < 10 ^ (d + 1)) := by show _ ∧ _; rw [hp1]; omega
              have e1 : IntKind.i64.wrap (n * 10) = n * 10 := IntWalk.i64_in _ (by omega)
              have e2 : IntKind.u8.wrap (c - 48) = c - 48 := u8_less (by omega)
              have e3 : IntKind.i64.wrap (c - 48) = c - 48 := IntWalk.i64_in _ (by omega)
              have e4 : IntKind.i64.wrap (n * 10 + (c - 48)) = n * 10 + (c - 48) := IntWalk.i64_in _ (by omega)
              have hd9 : d ≤ 9 := by omega
              clear hp9 hp1 hn1 hbad
              go_wp2_with fail
              go_roundw
              case rel => exact ⟨i + 1, l, n * 10 + (c - 48), d + 1, la, lc, by omega, rfl, rfl, by go_num, by go_num, HO.out, HNX.out, HN.out.1, HN.out.2, by omega, by omega, HBR.out⟩
              case measure => simp [intOf]; omega
        · obtain rfl : i = q.length := by omega
          have hx : refP q [] 0 0 = some l := by rw [← HR.out, List.drop_length]; rfl
          have HX := Lib.hid hx
          have li : ¬ ((q.length : Nat) : Int) < S.size := by omega
          have HBB := Lib.hid (HB2.out.trans (HBR.out.mono HB2.out.size))
          have HKR := Lib.hid (blk_stay HBR.out HK2.out)
          clear hx HR hlt hn0 hn1 hd hi
          by_cases h2 : l.length < 2
          · have HE := Lib.hid (HLIST.out _ HX.out (fun a r h hne => absurd h2 (by
              cases h
              cases r with
              | nil => exact absurd rfl hne
              | cons => simp)))
            have x0 := HKR.out.cell (i := 0) rfl
            have x1 := HKR.out.cell (i := 1) rfl
            have g0 := HKR.out.frozen 0
            have g1 := HKR.out.frozen 1
            have l2 : (l.length : Int) < 2 := by omega
            clear h2
            go_wp2_with fail
            refine bodyPost_ret (v := .tuple #[.agg #[.int .i64 0, .slice none 0 0], .bool false]) (by simp [results, Tryz.results33, go_sem, x0, x1]) rfl ?_
            exact ⟨(HBB.out.setCell (p := ⟨w.heap.size, 0, none⟩) (Nat.le_refl _) _).setCell (p := ⟨w.heap.size, 1, none⟩) (Nat.le_refl _) _, .inr ⟨HE.out, rfl⟩⟩
          · obtain ⟨a, r, rfl⟩ : ∃ a r, l = a :: r := by
              cases l with
              | nil => simp at h2
              | cons a r => exact ⟨a, r, rfl⟩
            have hr1 : 1 ≤ r.length := by simp at h2; omega
            have hcap := HO.out.cap
            have hoi := HO.out.at
            simp only [List.length_cons] at hcap hoi hll ⊢
            obtain ⟨bl, ol, ta, tc, rfl, hbl, hc0, hsl, hti⟩ := ints_tail hoi hcap hr1
            have hcA : ∀ O, (wr.alloc O).cell? ⟨bl, ol, none⟩ = some (.int .i64 a) := fun O => by rw [World.cell?_of_block (w := wr) (Below.heap_alloc wr O bl hbl)]; exact hc0
            have l2 : ¬ ((r.length : Int) + 1) < 2 := by omega
            have HTI := Lib.hid hti
            have HRL := Lib.hid (show r.length < 200000 by omega)
            clear hcap hoi hti h2 HO hll
            go_upto_region 20 with fail
            go_region
            go_simp
            go_upto_region 21 with fail
            refine Fr.wp_world fun w4 hw4 => ?_
            have hb4 : Below wr.heap.size wr w4 := by rw [hw4]; exact (((Below.refl _ _).alloc (Nat.le_refl _) _).drew)
            have hk4 : Blk w4 wr.heap.size 48 [.int .i64 a, .slice ta r.length tc] := by rw [hw4]; exact Blk.new wr _ _
            obtain ⟨bm, hbm⟩ : ∃ bm, bm = wr.heap.size := ⟨_, rfl⟩
            rw [← hbm] at hk4
            try rw [← hbm]
            have HM4 := Lib.hid hk4
            have HK4 := Lib.hid (blk_stay hb4 HKR.out)
            have HB4 := Lib.hid (HBB.out.trans (hb4.mono HBB.out.size))
            have HT4 := Lib.hid (HTI.out.below hb4)
            have m0 := hk4.cell (i := 0) rfl
            have m1 := hk4.cell (i := 1) rfl
            clear hw4 hb4 hk4 hbm hcA hc0 hsl hbl HBB HKR HTI
            go_wp2_with fail
            refine (refGood_any a (.slice ta r.length tc) r w4 (.inl HT4.out.ints) (by have := HRL.out; omega)).mono ?_; rintro e w5 ⟨rfl, hb5⟩
            have HM5 := Lib.hid (blk_stay hb5 HM4.out)
            have HK5 := Lib.hid (blk_stay hb5 HK4.out)
            have HB5 := Lib.hid (HB4.out.trans (hb5.mono HB4.out.size))
            have HT5 := Lib.hid (HT4.out.below hb5)
            clear hb5 m0 m1 HM4 HK4 HB4 HT4
            by_cases hg : GoodM a r
            · rw [decide_eq_true hg]
              have m0 := HM5.out.cell (i := 0) rfl
              have m1 := HM5.out.cell (i := 1) rfl
              go_wp2_with fail
              refine (refEncode5_any a (.slice ta r.length tc) r w5 HT5.out.ints hg).mono ?_; rintro e w6 ⟨rfl, hb6⟩
              have HM6 := Lib.hid (blk_stay hb6 HM5.out)
              have HK6 := Lib.hid (blk_stay hb6 HK5.out)
              have HB6 := Lib.hid (HB5.out.trans (hb6.mono HB5.out.size))
              have HT6 := Lib.hid (HT5.out.below hb6)
              have HG := Lib.hid hg
              clear hb6 m0 m1 HM5 HK5 HB5 HT5 hg
              have m0 := HM6.out.cell (i := 0) rfl
              have m1 := HM6.out.cell (i := 1) rfl
              have x0 := HK6.out.cell (i := 0) rfl
              have x1 := HK6.out.cell (i := 1) rfl
              have g0 := HK6.out.frozen 0
              have g1 := HK6.out.frozen 1
              by_cases he : manB a r = b
              · have HE := Lib.hid (decM_good HG.out he)
                rw [he, ← HBS.out]
                clear he
                go_wp2_with fail
                refine bodyPost_ret (v := .tuple #[.agg #[.int .i64 a, .slice ta r.length tc], .bool true]) (by simp [results, Tryz.results33, go_sem, x0, x1]) rfl ?_
                have h7 : IntsAt w6 (w.heap.size + 1) (.slice ta r.length tc) r := HT6.out.low HZ2.out
                exact ⟨(HB6.out.setCell (p := ⟨w.heap.size, 0, none⟩) (Nat.le_refl _) _).setCell (p := ⟨w.heap.size, 1, none⟩) (Nat.le_refl _) _, .inl ⟨a, r, _, HE.out, rfl, h7.set.set.ints⟩⟩
              · have HE := Lib.hid (HLIST.out _ HX.out (fun x y h _ hh => he (by
                  injection h with h
                  injection h with h1 h2
                  subst h1 h2
                  exact hh.2)))
                have hne : ((strOfNums (manB a r)).toList == bs.toList) = false := str_other fun k => he (Fr.strOfNums_inj (manB_byt a r) HB.out (k.trans HBS.out))
                generalize strOfNums (manB a r) = T at *
                clear he
                go_wp2_with fail
                refine bodyPost_ret (v := .tuple #[.agg #[.int .i64 0, .slice none 0 0], .bool false]) (by simp [results, Tryz.results33, go_sem, x0, x1]) rfl ?_
                exact ⟨(HB6.out.setCell (p := ⟨w.heap.size, 0, none⟩) (Nat.le_refl _) _).setCell (p := ⟨w.heap.size, 1, none⟩) (Nat.le_refl _) _, .inr ⟨HE.out, rfl⟩⟩
            · rw [decide_eq_false hg]
              have HE := Lib.hid (HLIST.out _ HX.out (fun x y h _ hh => hg (by
                injection h with h
                injection h with h1 h2
                subst h1 h2
                exact hh.1)))
              have x0 := HK5.out.cell (i := 0) rfl
              have x1 := HK5.out.cell (i := 1) rfl
              have g0 := HK5.out.frozen 0
              have g1 := HK5.out.frozen 1
              clear hg
              go_wp2_with fail
              refine bodyPost_ret (v := .tuple #[.agg #[.int .i64 0, .slice none 0 0], .bool false]) (by simp [results, Tryz.results33, go_sem, x0, x1]) rfl ?_
              exact ⟨(HB5.out.setCell (p := ⟨w.heap.size, 0, none⟩) (Nat.le_refl _) _).setCell (p := ⟨w.heap.size, 1, none⟩) (Nat.le_refl _) _, .inr ⟨HE.out, rfl⟩⟩
    · have HE := Lib.hid (HOFF.out (.inr hk))
      subst hc
      have x0 := HK2.out.cell (i := 0) rfl
      have x1 := HK2.out.cell (i := 1) rfl
      have g0 := HK2.out.frozen 0
      have g1 := HK2.out.frozen 1
      go_wp2_with fail
      refine bodyPost_ret (v := .tuple #[.agg #[.int .i64 0, .slice none 0 0], .bool false]) (by simp [results, Tryz.results33, go_sem, x0, x1]) rfl ?_
      exact ⟨(HB2.out.setCell (p := ⟨w.heap.size, 0, none⟩) (Nat.le_refl _) _).setCell (p := ⟨w.heap.size, 1, none⟩) (Nat.le_refl _) _, .inr ⟨HE.out, rfl⟩⟩
  · have HE := Lib.hid (HOFF.out (.inl hc))
    have x0 := HK2.out.cell (i := 0) rfl
    have x1 := HK2.out.cell (i := 1) rfl
    have g0 := HK2.out.frozen 0
    have g1 := HK2.out.frozen 1
    go_wp2_with fail
    refine bodyPost_ret (v := .tuple #[.agg #[.int .i64 0, .slice none 0 0], .bool false]) (by simp [results, Tryz.results33, go_sem, x0, x1]) rfl ?_
    exact ⟨(HB2.out.setCell (p := ⟨w.heap.size, 0, none⟩) (Nat.le_refl _) _).setCell (p := ⟨w.heap.size, 1, none⟩) (Nat.le_refl _) _, .inr ⟨HE.out, rfl⟩⟩
end Go.Proofs.YtkdjkmnalkalpaaGreatDoor
namespace Go.Proofs.YtkdjkmnalkalpaaGreatDoor
open Go.RowKit
set_option maxRecDepth 100000

set_option maxHeartbeats 1000000 in
theorem ref5_slice (n : Int) (ua : Option Addr) (m uc : Nat) (w : World) :
    Calls Tryz.prog 20 #[.agg #[.int .i64 n, .slice ua m uc]] w fun e w' => e = .returned (.agg #[.int .i64 n, .slice ua m uc]) ∧ Below w.heap.size w w' := by
  have hb : Below w.heap.size w ((w.alloc (.cells #[.int .i64 n, .slice ua m uc] 37)).alloc (.cells #[.int .i64 n, .slice ua m uc] 48)) := ((Below.refl _ _).alloc (Nat.le_refl _) _).alloc (by simp) _
  have hk := Blk.new (w.alloc (.cells #[.int .i64 n, .slice ua m uc] 37)) 48 [.int .i64 n, .slice ua m uc]
  rw [World.size_alloc] at hk
  have x0 := hk.cell (i := 0) rfl
  have x1 := hk.cell (i := 1) rfl
  clear hk
  go_enter Tryz.func20, Tryz.ntmps20
  go_wp2
  exact bodyPost_ret (v := .agg #[.int .i64 n, .slice ua m uc]) (by simp [results, Tryz.results20, go_sem, x0, x1]) rfl ⟨rfl, hb⟩
theorem manB_len {n : Int} {ns : List Int} (h : GoodM n ns) : (manB n ns).length ≤ 372 := by
  have := textM_len h
  unfold manB
  rw [Fr.frameI_length]
  omega
set_option maxHeartbeats 16000000 in
theorem bytes5_any (n : Int) (u v : Value) (ns p : List Int) (w : World) (hl : NumL w) (hu : IntsW w u ns) (hul : ns.length < 9223372036854775808) (hp : Fr.Bytes w v p) (hy : Fr.Byt p) (hm : p.length < 9223372036854775808) :
    Calls Tryz.prog 4 #[.agg #[.int .i64 n, u], v] w fun e w' => e = .returned (.bool true) ∧ Below w.heap.size w w' := by
  obtain ⟨ua, uc, rfl⟩ := hu.slice
  obtain ⟨va, vc, rfl⟩ := hp.slice'
  obtain ⟨wx, hwx⟩ : ∃ wx, wx = w.alloc (.cells #[.int .i64 n, .slice ua ns.length uc] 37) := ⟨_, rfl⟩
  have hbx : Below w.heap.size w wx := by rw [hwx]; exact (Below.refl _ _).alloc (Nat.le_refl _) _
  have hkx : Blk wx w.heap.size 37 [.int .i64 n, .slice ua ns.length uc] := by rw [hwx]; exact Blk.new w _ _
  have HL := Lib.hid hl
  have HU := Lib.hid hu
  have HUL := Lib.hid hul
  have HP := Lib.hid hp
  have HY := Lib.hid hy
  have HBX := Lib.hid hbx
  have HKX := Lib.hid hkx
  clear hl hu hul hp hy hbx hkx
  go_enter Tryz.func4, Tryz.ntmps4
  go_upto_region 1 with fail
  rw [← hwx]
  clear hwx
  obtain ⟨bm, hbm⟩ : ∃ bm, bm = w.heap.size := ⟨_, rfl⟩
  have HKB : Hid (Blk wx bm 37 [.int .i64 n, .slice ua ns.length uc]) := by show Blk _ _ _ _; rw [hbm]; exact HKX.out
  rw [← hbm]
  clear hbm HKX
  go_wp2_with fail
  refine (awake5_any wx (HL.out.below HBX.out)).mono ?_; rintro e w1 ⟨rfl, hb1⟩
  have HB1 := Lib.hid (HBX.out.trans (hb1.mono HBX.out.size))
  have HK1 := Lib.hid (blk_stay hb1 HKB.out)
  clear hb1 HKB HBX
  have x0 := HK1.out.cell (i := 0) rfl
  have x1 := HK1.out.cell (i := 1) rfl
  by_cases hbig : 100 < ns.length
  · have l1 : (ns.length : Int) > 100 := by omega
    clear hbig
    go_wp2_with fail
    refine (awake5_any w1 (HL.out.below HB1.out)).mono ?_; rintro e w2 ⟨rfl, hb2⟩
    have HE := Lib.hid (HB1.out.trans (hb2.mono HB1.out.size))
    clear hb2
    go_wp2_with fail
    go_ret
    exact ⟨rfl, HE.out⟩
  have l1 : ¬ (ns.length : Int) > 100 := by omega
  by_cases hbig2 : 1000 < p.length
  · have l2 : (p.length : Int) > 1000 := by omega
    clear hbig hbig2
    go_wp2_with fail
    refine (awake5_any w1 (HL.out.below HB1.out)).mono ?_; rintro e w2 ⟨rfl, hb2⟩
    have HE := Lib.hid (HB1.out.trans (hb2.mono HB1.out.size))
    clear hb2
    go_wp2_with fail
    go_ret
    exact ⟨rfl, HE.out⟩
  have l2 : ¬ (p.length : Int) > 1000 := by omega
  have HPL := Lib.hid (show p.length ≤ 1000 by omega)
  have HNL := Lib.hid (show ns.length ≤ 100 by omega)
  clear hbig hbig2
  have HEN := Lib.hid (encM_any n (.slice ua ns.length uc) ns w1 (HU.out.below HB1.out) HUL.out (HL.out.tab.below HB1.out))
  have HLW := Lib.hid (fun (W : World) (hW : Below w.heap.size w W) => HL.out.below hW)
  go_wp2_with fail
  refine HEN.out.mono ?_; rintro e w2 ⟨hb2, hq⟩
  clear HEN x0 x1
  have HB2 := Lib.hid (HB1.out.trans (hb2.mono HB1.out.size))
  have HK2 := Lib.hid (blk_stay hb2 HK1.out)
  clear hb2 HK1 HB1
  have x0 := HK2.out.cell (i := 0) rfl
  have x1 := HK2.out.cell (i := 1) rfl
  by_cases hg : GoodM n ns
  case' pos =>
    obtain ⟨v1, rfl, ho1⟩ : ∃ v1, e = .returned (.tuple #[v1, .int .i64 0]) ∧ Fr.OwnB w2 w1.heap.size v1 (manB n ns) := by
      rcases hq with ⟨_, h⟩ | ⟨h, _⟩
      · exact h
      · exact absurd hg h
    clear hq
    obtain ⟨a1, c1, rfl⟩ := ho1.slice
    have HG := Lib.hid hg
    have HO1 := Lib.hid ho1
    have hml := manB_len hg
    have HDC := Lib.hid (decM_enc hg)
    have HMB := Lib.hid (manB_byt n ns)
    obtain ⟨B, hB⟩ : ∃ B, B = manB n ns := ⟨_, rfl⟩
    rw [← hB] at hml HO1 HDC HMB ⊢
    have HBQ := Lib.hid hB
    have HML := Lib.hid hml
    clear hg ho1 hml hB
    go_wp2_with fail
    refine (ref5_slice n ua ns.length uc w2).mono ?_; rintro e w3 ⟨rfl, hb3⟩
    have HB3 := Lib.hid (HB2.out.trans (hb3.mono HB2.out.size))
    have HK3 := Lib.hid (blk_stay hb3 HK2.out)
    have HO3 := Lib.hid (HO1.out.keep hb3)
    clear hb3 x0 x1 HK2 HB2 HO1
    go_wp2_with fail
    refine (refGood_any n (.slice ua ns.length uc) ns w3 (HU.out.below HB3.out) HUL.out).mono ?_; rintro e w4 ⟨rfl, hb4⟩
    rw [decide_eq_true HG.out]
    have HB4 := Lib.hid (HB3.out.trans (hb4.mono HB3.out.size))
    have HK4 := Lib.hid (blk_stay hb4 HK3.out)
    have HO4 := Lib.hid (HO3.out.keep hb4)
    clear hb4 HK3 HB3 HO3
    have x0 := HK4.out.cell (i := 0) rfl
    have x1 := HK4.out.cell (i := 1) rfl
    go_wp2_with fail
    refine (check_any n (.slice ua ns.length uc) ns w4 (HU.out.below HB4.out) HUL.out (HL.out.tab.below HB4.out)).mono ?_; rintro e w5 ⟨rfl, hb5⟩
    rw [show codeM n ns = 0 by unfold codeM; rw [if_pos HG.out]]
    have HB5 := Lib.hid (HB4.out.trans (hb5.mono HB4.out.size))
    have HK5 := Lib.hid (blk_stay hb5 HK4.out)
    have HO5 := Lib.hid (HO4.out.keep hb5)
    clear hb5 HK4 HB4 HO4 x0 x1
    go_wp2_with fail
    refine (decM_any (.slice a1 B.length c1) B w5 (.inl HO5.out.bytes) HMB.out (by have := HML.out; omega) (HLW.out _ HB5.out)).mono ?_; rintro e w6 ⟨hb6, hq⟩
    obtain ⟨m, ms, x, hd, rfl, hx⟩ : ∃ m ms x, decM B = some (m, ms) ∧ e = .returned (.tuple #[.agg #[.int .i64 m, x], .int .i64 0]) ∧ IntsAt w6 w5.heap.size x ms := by
      rcases hq with h | ⟨h, _⟩
      · exact h
      · rw [HDC.out] at h; cases h
    rw [HDC.out] at hd
    injection hd with hd
    injection hd with hd1 hd2
    subst hd1 hd2
    obtain ⟨xb, xo, xc, rfl, _⟩ := id hx
    have HB6 := Lib.hid (HB5.out.trans (hb6.mono HB5.out.size))
    have HK6 := Lib.hid (blk_stay hb6 HK5.out)
    have HO6 := Lib.hid (HO5.out.keep hb6)
    have HX6 := Lib.hid hx.ints
    clear hb6 hx hq HK5 HB5 HO5
    go_upto_region 9 with fail
    refine Fr.wp_world fun w7 hw7 => ?_
    have hb67 : Below w6.heap.size w6 w7 := by rw [hw7]; exact (Below.refl _ _).alloc (Nat.le_refl _) _
    have hk7 : Blk w7 w6.heap.size 37 [.int .i64 n, .slice (some ⟨xb, xo, none⟩) ns.length xc] := by rw [hw7]; exact Blk.new w6 _ _
    have HB7 := Lib.hid (HB6.out.trans (hb67.mono HB6.out.size))
    have HK7 := Lib.hid (blk_stay hb67 HK6.out)
    have HO7 := Lib.hid (HO6.out.keep hb67)
    have HX7 := Lib.hid (HX6.out.below hb67)
    obtain ⟨bx, hbx⟩ : ∃ bx, bx = w6.heap.size := ⟨_, rfl⟩
    rw [← hbx] at hk7
    try rw [← hbx]
    have HKX := Lib.hid hk7
    clear hb67 hw7 hk7 HB6 HK6 HO6 HX6 hbx
    obtain ⟨T, hT⟩ : ∃ T, T = strOfNums B := ⟨_, rfl⟩
    have hrs := fun (W : World) (hW : Below w7.heap.size w7 W) => Fr.run_string (HO7.out.bytes.below hW)
    rw [← hT] at hrs
    have hui := HU.out.ints HG.out.2.1.1
    have HSK : Hid (∀ W : World, Below w7.heap.size w7 W → (W.cell? ⟨bm, 0, none⟩ = some (.int .i64 n) ∧ W.cell? ⟨bm, 1, none⟩ = some (.slice ua ns.length uc) ∧ W.cell? ⟨bx, 0, none⟩ = some (.int .i64 n) ∧ W.cell? ⟨bx, 1, none⟩ = some (.slice (some ⟨xb, xo, none⟩) ns.length xc) ∧ (convert 38 9 (.slice a1 B.length c1)).run Tryz.prog W = .ok (.string T) W)) := fun W hW =>
      ⟨(blk_stay hW HK7.out).cell (i := 0) rfl, (blk_stay hW HK7.out).cell (i := 1) rfl, (blk_stay hW HKX.out).cell (i := 0) rfl, (blk_stay hW HKX.out).cell (i := 1) rfl, hrs W hW⟩
    have HRF := Lib.hid (fun (W : World) (_ : Below w7.heap.size w7 W) => ref5_slice n ua ns.length uc W)
    have HRE := Lib.hid (fun (W : World) (hW : Below w7.heap.size w7 W) => show Calls Tryz.prog 32 #[.agg #[.int .i64 n, .slice ua ns.length uc]] W fun e w' => e = .returned (.string T) ∧ Below W.heap.size W w' from by
      rw [hT, HBQ.out]
      exact refEncode5_any n (.slice ua ns.length uc) ns W ((hui.below HB7.out).below hW) HG.out)
    have HSM := Lib.hid (fun (W : World) (hW : Below w7.heap.size w7 W) => show Calls Tryz.prog 25 #[.agg #[.int .i64 n, .slice (some ⟨xb, xo, none⟩) ns.length xc], .agg #[.int .i64 n, .slice ua ns.length uc]] W fun e w' => e = .returned (.bool true) ∧ Below W.heap.size W w' from by
      have := same5_any n n (.slice (some ⟨xb, xo, none⟩) ns.length xc) (.slice ua ns.length uc) ns ns W (HX7.out.below hW) ((hui.below HB7.out).below hW) (by have := HNL.out; omega) (by have := HNL.out; omega)
      rw [decide_eq_true (show n = n ∧ ns = ns from ⟨rfl, rfl⟩)] at this
      exact this)
    have HBD := Lib.hid (⟨rfl, rfl, rfl, Nat.le_refl _, fun _ _ => rfl⟩ : Below w7.heap.size w7 w7.drew)
    clear hrs hui hT
    go_region_held_law (fun W : World => W.cell? ⟨bm, 0, none⟩ = some (.int .i64 n) ∧ W.cell? ⟨bm, 1, none⟩ = some (.slice ua ns.length uc) ∧ W.cell? ⟨bx, 0, none⟩ = some (.int .i64 n) ∧ W.cell? ⟨bx, 1, none⟩ = some (.slice (some ⟨xb, xo, none⟩) ns.length xc) ∧ (convert 38 9 (.slice a1 B.length c1)).run Tryz.prog W = .ok (.string T) W)
      (first | exact HSK.out _ HBD.out | exact HSK.out _ hb8 | exact HSK.out _ hb9 | exact HSK.out _ hb10 | exact HSK.out _ hb11)
      (first
        | (go_simp; go_at_call 20; refine (HRF.out _ hb9).mono ?_; rintro e w10 ⟨rfl, h10⟩; have hb10 := hb9.trans (h10.mono hb9.size))
        | (go_simp; go_at_call 20; refine (HRF.out _ HBD.out).mono ?_; rintro e w8 ⟨rfl, h8⟩; have hb8 := HBD.out.trans (h8.mono HBD.out.size))
        | (go_simp; go_at_call 32; refine (HRE.out _ hb8).mono ?_; rintro e w9 ⟨rfl, h9⟩; have hb9 := hb8.trans (h9.mono hb8.size))
        | (go_simp; go_at_call 25; refine (HSM.out _ hb10).mono ?_; rintro e w11 ⟨rfl, h11⟩; have hb11 := hb10.trans (h11.mono hb10.size)))
    have HB11 := Lib.hid (HB7.out.trans (hb11.mono HB7.out.size))
    clear hb8 hb9 hb10 hb11 h8 h9 h10 h11 HSK HRF HRE HSM HBD HB7 HK7 HKX HO7 HX7 HDC HMB HBQ HML HG
    go_simp
    go_upto_region 11 with fail
    refine Fr.wp_world fun wt hwt => ?_
    have HBT : Hid (Below w.heap.size w wt) := by rw [hwt]; exact HB11.out
    clear hwt HB11
  case' neg =>
    obtain rfl : e = .returned (.tuple #[.slice none 0 0, .int .i64 1]) := by
      rcases hq with ⟨h, _⟩ | ⟨_, h⟩
      · exact absurd h hg
      · exact h
    clear hq
    have HG := Lib.hid hg
    clear hg
    go_wp2_with fail
    refine (ref5_slice n ua ns.length uc w2).mono ?_; rintro e w3 ⟨rfl, hb3⟩
    have HB3 := Lib.hid (HB2.out.trans (hb3.mono HB2.out.size))
    have HK3 := Lib.hid (blk_stay hb3 HK2.out)
    clear hb3 x0 x1 HK2 HB2
    go_wp2_with fail
    refine (refGood_any n (.slice ua ns.length uc) ns w3 (HU.out.below HB3.out) HUL.out).mono ?_; rintro e w4 ⟨rfl, hb4⟩
    rw [decide_eq_false HG.out]
    have HB4 := Lib.hid (HB3.out.trans (hb4.mono HB3.out.size))
    have HK4 := Lib.hid (blk_stay hb4 HK3.out)
    clear hb4 HK3 HB3
    have x0 := HK4.out.cell (i := 0) rfl
    have x1 := HK4.out.cell (i := 1) rfl
    go_wp2_with fail
    refine (check_any n (.slice ua ns.length uc) ns w4 (HU.out.below HB4.out) HUL.out (HL.out.tab.below HB4.out)).mono ?_; rintro e w5 ⟨rfl, hb5⟩
    rw [show codeM n ns = 1 by unfold codeM; rw [if_neg HG.out]]
    have HB5 := Lib.hid (HB4.out.trans (hb5.mono HB4.out.size))
    clear hb5 HK4 HB4 x0 x1 HG
    go_upto_region 11 with fail
    refine Fr.wp_world fun wt hwt => ?_
    have HBT : Hid (Below w.heap.size w wt) := by rw [hwt]; exact HB5.out
    clear hwt HB5
  all_goals
    have hown0 : Fr.OwnB (wt.alloc (.cells #[] 5)) wt.heap.size (.slice (some ⟨wt.heap.size, 0, none⟩) 0 0) [] := World.ownsRow_lit wt #[] 0 (Nat.le_refl _) (by unfold maxLen; omega) rfl
    have hB2 : Below w.heap.size w (wt.alloc (.cells #[] 5)) := HBT.out.alloc HBT.out.size _
    have HO := Lib.hid hown0
    have HBA := Lib.hid hB2
    have hbs : wt.heap.size ≤ (wt.alloc (.cells #[] 5)).heap.size := by simp
    have HBS := Lib.hid hbs
    clear hown0 hB2 hbs
    go_wp2_with (with_reducible refine Fr.wpList_append_bytesArg rfl (.tmp 84) (.tmp 85) rfl wt.heap.size _ _ [] p ?_ HO.out ?_ HP.out HBA.out ?_ HBS.out ?_)
    case refine_1 => rfl
    case refine_2 => rfl
    case refine_3 => have := HPL.out; simp; omega
    intro v3 w13 hown3 hg3
    have hB3 : Below w.heap.size w w13 := HBA.out.trans ((HO.out.below hg3 HBS.out).mono HBT.out.size)
    obtain ⟨ga, gc, rfl⟩ := hown3.slice
    have HO3 : Hid (Fr.OwnB w13 wt.heap.size (.slice ga p.length gc) p) := hown3
    have HB13 := Lib.hid hB3
    clear hown3 hg3 hB3 HO HBA HBS HBT
    go_wp2_with fail
    refine (decM_any (.slice ga p.length gc) p w13 (.inl HO3.out.bytes) HY.out (by have := HPL.out; omega) (HLW.out _ HB13.out)).mono ?_; rintro e w14 ⟨hb14, hq⟩
    have HB14 := Lib.hid (HB13.out.trans (hb14.mono HB13.out.size))
    obtain ⟨n1, u1, c1, rfl, hdr⟩ : ∃ (n1 : Int) (u1 : Value) (c1 : Int), e = .returned (.tuple #[.agg #[.int .i64 n1, u1], .int .i64 c1]) ∧ ((∃ ms, decM p = some (n1, ms) ∧ c1 = 0 ∧ Ints w14 u1 ms) ∨ (decM p = none ∧ c1 = 2 ∧ n1 = 0 ∧ u1 = .slice none 0 0)) := by
      rcases hq with ⟨m, ms, x, hd, rfl, hx⟩ | ⟨hd, rfl⟩
      · exact ⟨m, x, 0, rfl, .inl ⟨ms, hd, rfl, hx.ints⟩⟩
      · exact ⟨0, _, 2, rfl, .inr ⟨hd, rfl, rfl, rfl⟩⟩
    obtain ⟨u1a, u1n, u1c, rfl⟩ : ∃ a n c, u1 = .slice a n c := by
      rcases hdr with ⟨ms, _, _, h⟩ | ⟨_, _, _, rfl⟩
      · obtain ⟨a, c, rfl⟩ := h.slice; exact ⟨a, _, c, rfl⟩
      · exact ⟨_, _, _, rfl⟩
    have HDR := Lib.hid hdr
    clear hb14 hq HO3 HB13 hdr
    go_upto_region 12 with fail
    refine Fr.wp_world fun w15 hw15 => ?_
    have hb15 : Below w14.heap.size w14 w15 := by rw [hw15]; exact (Below.refl _ _).alloc (Nat.le_refl _) _
    have hk15 : Blk w15 w14.heap.size 37 [.int .i64 n1, .slice u1a u1n u1c] := by rw [hw15]; exact Blk.new w14 _ _
    obtain ⟨by1, hby1⟩ : ∃ by1, by1 = w14.heap.size := ⟨_, rfl⟩
    rw [← hby1] at hk15
    try rw [← hby1]
    have HB15 := Lib.hid (HB14.out.trans (hb15.mono HB14.out.size))
    have HK15 := Lib.hid hk15
    have HS15 := Lib.hid (fun (ms : List Int) (h : Ints w14 (.slice u1a u1n u1c) ms) => h.below hb15)
    have hcv := Fr.run_string (HP.out.below HB15.out)
    clear hw15 hb15 hk15 hby1 HB14
    go_wp2_with fail
    refine (refDecode5_any p w15 HY.out (by have := HPL.out; omega)).mono ?_; rintro e w16 ⟨hb16, hq⟩
    have HB16 := Lib.hid (HB15.out.trans (hb16.mono HB15.out.size))
    have HK16 := Lib.hid (blk_stay hb16 HK15.out)
    have HS16 := Lib.hid (fun (ms : List Int) (h : Ints w14 (.slice u1a u1n u1c) ms) => (HS15.out ms h).below hb16)
    clear hb16 HB15 HK15 HS15 hcv
    rcases HDR.out with ⟨ms, hd, rfl, hi1⟩ | ⟨hd, rfl, rfl, hu1⟩
    · obtain ⟨u2, rfl, hi2⟩ : ∃ u2, e = .returned (.tuple #[.agg #[.int .i64 n1, u2], .bool true]) ∧ Ints w16 u2 ms := by
        rcases hq with ⟨m, ms', x, hd', rfl, hx⟩ | ⟨hd', _⟩
        · rw [hd] at hd'
          cases hd'
          exact ⟨x, rfl, hx⟩
        · rw [hd] at hd'; cases hd'
      have hgm := (decM_some hd).1.2.1.2
      obtain ⟨u2a, u2c, rfl⟩ := hi2.slice
      have hi1' := HS16.out ms hi1
      obtain rfl : u1n = ms.length := by
        obtain ⟨_, _, he1⟩ := hi1.slice
        injection he1
      have HI1 := Lib.hid hi1'
      have HI2 := Lib.hid hi2
      have HGM := Lib.hid hgm
      clear hq hd hi1 hi1' hi2 hgm HDR HS16
      go_upto_region 13 with fail
      refine Fr.wp_world fun w17 hw17 => ?_
      have hb17 : Below w16.heap.size w16 w17 := by rw [hw17]; exact (Below.refl _ _).alloc (Nat.le_refl _) _
      have hk17 : Blk w17 w16.heap.size 48 [.int .i64 n1, .slice u2a ms.length u2c] := by rw [hw17]; exact Blk.new w16 _ _
      have hk16 := blk_stay hb17 HK16.out
      obtain ⟨by2, hby2⟩ : ∃ by2, by2 = w16.heap.size := ⟨_, rfl⟩
      rw [← hby2] at hk17
      try rw [← hby2]
      have y0 := hk16.cell (i := 0) rfl
      have y1 := hk16.cell (i := 1) rfl
      have z0 := hk17.cell (i := 0) rfl
      have z1 := hk17.cell (i := 1) rfl
      have HSM := Lib.hid (same5_any n1 n1 (.slice u1a ms.length u1c) (.slice u2a ms.length u2c) ms ms w17 (HI1.out.below hb17) (HI2.out.below hb17) (by have := HGM.out; omega) (by have := HGM.out; omega))
      rw [decide_eq_true (show n1 = n1 ∧ ms = ms from ⟨rfl, rfl⟩)] at HSM
      have HB17 := Lib.hid (HB16.out.trans (hb17.mono HB16.out.size))
      clear hw17 hb17 hk17 hk16 hby2
      go_wp2_with fail
      refine HSM.out.mono ?_; rintro e w18 ⟨rfl, hb18⟩
      have HB18 := Lib.hid (HB17.out.trans (hb18.mono HB17.out.size))
      clear hb18
      go_wp2_with fail
      go_ret
      exact ⟨by first | rfl | simp, HB18.out⟩
    · obtain rfl : e = .returned (.tuple #[.agg #[.int .i64 0, .slice none 0 0], .bool false]) := by
        rcases hq with ⟨m, ms', x, hd', _⟩ | ⟨_, h⟩
        · rw [hd] at hd'; cases hd'
        · exact h
      injection hu1 with h1 h2 h3
      subst h1 h2 h3
      clear hq hd HDR HS16
      go_upto_region 13 with fail
      refine Fr.wp_world fun w17 hw17 => ?_
      have hb17 : Below w16.heap.size w16 w17 := by rw [hw17]; exact (Below.refl _ _).alloc (Nat.le_refl _) _
      have hk16 := blk_stay hb17 HK16.out
      have y0 := hk16.cell (i := 0) rfl
      have y1 := hk16.cell (i := 1) rfl
      have HSM := Lib.hid (same5_any 0 0 (.slice none 0 0) (.slice none 0 0) [] [] w17 (.inl ⟨rfl, rfl⟩) (.inl ⟨rfl, rfl⟩) (by simp) (by simp))
      rw [decide_eq_true (show (0 : Int) = 0 ∧ ([] : List Int) = [] from ⟨rfl, rfl⟩)] at HSM
      have HB17 := Lib.hid (HB16.out.trans (hb17.mono HB16.out.size))
      clear hw17 hb17 hk16
      go_wp2_with fail
      refine HSM.out.mono ?_; rintro e w18 ⟨rfl, hb18⟩
      have HB18 := Lib.hid (HB17.out.trans (hb18.mono HB17.out.size))
      clear hb18
      go_wp2_with fail
      go_ret
      exact ⟨by first | rfl | simp, HB18.out⟩
end Go.Proofs.YtkdjkmnalkalpaaGreatDoor
