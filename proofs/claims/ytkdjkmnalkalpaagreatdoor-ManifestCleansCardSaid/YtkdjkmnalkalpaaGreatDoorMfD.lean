/- Package manifest: a line and lines, as the program makes them; whether it is one; its bytes. -/
import Derived.Test.YtkdjkmnalkalpaaGreatDoorMfC
import Derived.Test.YtkdjkmnalkalpaaGreatDoorFrK
namespace Go.Proofs.YtkdjkmnalkalpaaGreatDoor
open Go.RowKit
set_option maxRecDepth 100000

theorem itoa_pos {n : Int} (h : 0 ≤ n) : Lib.itoa n = Lib.decDigits n.toNat := by unfold Lib.itoa; rw [if_neg (by omega)]
set_option maxHeartbeats 4000000 in
theorem line_any (n : Int) (w : World) (h0 : 0 ≤ n) (h1 : n ≤ 2147483647) (ht : Tab w) :
    Calls Tryz.prog 89 #[.int .i64 n] w fun e w' => ∃ v, e = .returned v ∧ Fr.OwnB w' w.heap.size v (lineI n) ∧ Below w.heap.size w w' := by
  have HAP := Lib.hid (Tryz.strconv_AppendInt_10 w.heap.size 0 n (by omega) (by omega) (.slice none 0 0) [] w (World.ownsRow_nil _ _ _ _) (Nat.le_refl _) (by omega) (fun w' hb => ht.below hb))
  have HDL := Lib.hid (digI_len h1)
  go_enter Tryz.func89, Tryz.ntmps89
  go_wp2_with fail
  refine HAP.out.mono ?_; rintro e w1 ⟨v1, rfl, hown, hb1, _⟩
  rw [itoa_pos h0, Nat.zero_add, List.nil_append, intsOf_cells] at hown
  have hO : Fr.OwnB w1 w.heap.size v1 (digI n) := by
    unfold Fr.OwnB digI
    rw [intsOf_length]; exact hown
  have HO := Lib.hid hO
  have HB := Lib.hid hb1
  obtain ⟨ga, gc, rfl⟩ := hO.slice
  clear hown hO hb1 HAP
  go_wp2_with (with_reducible refine Fr.wpList_append_bytes rfl (.tmp 4) (.tmp 5) rfl w.heap.size _ (digI n) ?_ (HO.out.alloc _) w1.heap.size 0 1 1 [10] ?_ rfl Fr.one_range ?_ ?_ ?_)
  case refine_1 => rfl
  case refine_2 => rfl
  case refine_3 => have := HDL.out; omega
  case refine_4 => have := HB.out.size; simp; omega
  intro v2 w2 hown2 hg2
  have hb2 : Below w.heap.size w w2 := HB.out.trans (((Below.refl _ _).alloc HB.out.size _).trans ((HO.out.alloc _).below hg2 (by have := HB.out.size; simp; omega)))
  obtain ⟨g2, c2, rfl⟩ := hown2.slice
  have HO2 := Lib.hid hown2
  have HB2 := Lib.hid hb2
  clear hown2 hg2 hb2 HO HB
  go_wp2_with fail
  go_ret
  exact ⟨_, rfl, HO2.out, HB2.out⟩
theorem OwnB.nil' (w : World) (b : Nat) : Fr.OwnB w b (.slice none 0 0) [] := World.ownsRow_nil _ _ _ _
set_option maxHeartbeats 4000000 in
theorem lines_any (v : Value) (ns : List Int) (w : World) (hv : Ints w v ns) (hl : ns.length ≤ 100) (hn : ∀ x ∈ ns, 0 ≤ x ∧ x ≤ 2147483647) (ht : Tab w) :
    Calls Tryz.prog 90 #[v] w fun e w' => ∃ u, e = .returned u ∧ Fr.OwnB w' w.heap.size u (linesI ns) ∧ Below w.heap.size w w' := by
  have HV := Lib.hid hv
  have HN := Lib.hid hn
  have HT := Lib.hid ht
  have HLL := Lib.hid (linesI_len (ns := ns) fun x hx => (hn x hx).2)
  obtain ⟨va, vc, rfl⟩ := hv.slice
  clear hv hn ht
  go_enter Tryz.func90, Tryz.ntmps90
  go_wp2_with fail
  go_loopw [3, 8] (fun s3 s8 wr => ∃ (i c : Nat) (g : Option Addr), i ≤ ns.length ∧ s8 = .int .i64 i ∧ s3 = .slice g (linesI (ns.take i)).length c ∧ Fr.OwnB wr w.heap.size s3 (linesI (ns.take i)) ∧ Below w.heap.size w wr)
    (fun _ s8 _ => ns.length - (intOf s8).toNat)
  case atStart => exact ⟨0, 0, none, by omega, rfl, rfl, OwnB.nil' _ _, Below.refl _ _⟩
  case round =>
    obtain ⟨i, c, g, hi, rfl, rfl, hO, hB⟩ := hrel
    have HO := Lib.hid hO
    have HB := Lib.hid hB
    clear hO hB
    by_cases hlt : i < ns.length
    · have hx := HN.out (ns.getD i 0) (getD_mem hlt)
      obtain ⟨b, o, cap, e, hbl, hrg⟩ : ∃ b o cap, Value.slice va ns.length vc = .slice (some ⟨b, o, none⟩) ns.length cap ∧ b < w.heap.size ∧ w.rangeAt b o (ns.map (Value.int .i64)) := by
        rcases HV.out with ⟨e, h0⟩ | ⟨b, o, cap, e, h1, h2⟩
        · subst h0; simp at hlt
        · exact ⟨b, o, cap, e, h1, h2⟩
      cases e
      have hc : wr.cell? ⟨b, o + i, none⟩ = some (.int .i64 (ns.getD i 0)) := by
        rw [World.cell?_of_block (w := w) (HB.out.block b hbl)]
        exact hrg i _ (by rw [List.getElem?_map, List.getD_eq_getElem?_getD, List.getElem?_eq_getElem hlt]; rfl)
      have HLN := Lib.hid (line_any (ns.getD i 0) wr hx.1 hx.2 (HT.out.below HB.out))
      have HLE := Lib.hid (lineI_len hx.2)
      have HSN : Hid (linesI (ns.take (i + 1)) = linesI (ns.take i) ++ lineI (ns.getD i 0)) := by
        show _ = _
        rw [List.take_succ_eq_append_getElem hlt, linesI_snoc, List.getD_eq_getElem?_getD, List.getElem?_eq_getElem hlt]; rfl
      have HTL : Hid ((linesI (ns.take i)).length ≤ 1100) := by
        have h1 := linesI_len (ns := ns.take i) fun x hx => (HN.out x (List.mem_of_mem_take hx)).2
        have h2 : (ns.take i).length ≤ ns.length := by rw [List.length_take]; omega
        show _ ≤ _
        omega
      generalize ns.getD i 0 = x at *
      generalize linesI (ns.take i) = acc at *
      clear hrg hx
      go_wp2_with fail
      refine HLN.out.mono ?_; rintro e w1 ⟨u, rfl, hu, hb1⟩
      have HU := Lib.hid hu.bytes
      have HB1 := Lib.hid hb1
      have HO1 := Lib.hid (HO.out.keep hb1)
      clear hu hb1 HLN
      go_wp2_with (with_reducible refine Fr.wpList_append_bytesArg (w0 := w1) rfl (.tmp 12) (.tmp 14) rfl w.heap.size _ u acc (lineI x) ?_ HO1.out ?_ HU.out (Below.refl _ _) ?_ ?_ ?_)
      case refine_1 => rfl
      case refine_2 => rfl
      case refine_3 => have := HLE.out; have := HTL.out; omega
      case refine_4 => have := HB.out.size; have := HB1.out.size; omega
      intro v2 w2 hown2 hg2
      have hb2 : Below w.heap.size w w2 := (HB.out.trans (HB1.out.mono HB.out.size)).trans (HO1.out.below hg2 (by have := HB.out.size; have := HB1.out.size; omega))
      obtain ⟨g2, c2, rfl⟩ := hown2.slice
      have HO2 := Lib.hid hown2
      have HB2 := Lib.hid hb2
      clear hown2 hg2 hb2 HO HB HO1 HB1 HU
      go_wp2_with fail
      go_roundw
      case rel => exact ⟨i + 1, c2, g2, by omega, by go_num, by rw [HSN.out], by rw [HSN.out]; exact HO2.out, HB2.out⟩
      case measure => simp [intOf]; omega
    · obtain rfl : i = ns.length := by omega
      have HE : Hid (linesI (ns.take ns.length) = linesI ns) := by show _ = _; rw [List.take_length]
      have hO' := HO.out
      rw [HE.out] at hO'
      have HO' := Lib.hid hO'
      rw [HE.out]
      clear hO' HO
      go_wp2_with fail
      go_ret
      exact ⟨_, rfl, HO'.out, HB.out⟩
theorem codeN_eq (id : Int) : (codeN id == 0) = decide (1 ≤ id ∧ id ≤ 2147483647) := by
  unfold codeN
  by_cases h : 1 ≤ id ∧ id ≤ 2147483647
  · rw [if_pos h, decide_eq_true h]; rfl
  · rw [if_neg h, decide_eq_false h]; rfl
set_option maxHeartbeats 1000000 in
theorem isID_any (id : Int) (w : World) (ht : Tab w) :
    Calls Tryz.prog 91 #[.int .i64 id] w fun e w' => e = .returned (.bool (decide (1 ≤ id ∧ id ≤ 2147483647))) ∧ Below w.heap.size w w' := by
  have HN := Lib.hid (name_any id w ht)
  have HC := Lib.hid (codeN_eq id)
  generalize decide (1 ≤ id ∧ id ≤ 2147483647) = d at *
  generalize codeN id = cn at *
  go_enter Tryz.func91, Tryz.ntmps91
  go_wp2_with fail
  refine HN.out.mono ?_; rintro e w1 ⟨rfl, hb⟩
  have HB := Lib.hid hb
  clear hb HN
  go_wp2_with fail
  go_ret
  refine ⟨?_, HB.out⟩
  have := HC.out
  simp_all
theorem risB_cons (l x : Int) (r : List Int) : risB l (x :: r) = (decide (l < x) && decide (1 ≤ x ∧ x ≤ 2147483647) && risB x r) := rfl
def IntsW (w : World) (v : Value) (ns : List Int) : Prop := Ints w v ns ∨ ∃ a c, v = .slice (some a) 0 c ∧ ns = []
theorem IntsW.slice {w : World} {v : Value} {ns : List Int} (h : IntsW w v ns) : ∃ a c, v = .slice a ns.length c := by
  rcases h with h | ⟨a, c, rfl, rfl⟩
  · exact h.slice
  · exact ⟨_, _, rfl⟩
theorem IntsW.below {w w' : World} {v : Value} {ns : List Int} (h : IntsW w v ns) (hb : Below w.heap.size w w') : IntsW w' v ns := h.imp (fun k => k.below hb) id
theorem IntsW.ints {w : World} {v : Value} {ns : List Int} (h : IntsW w v ns) (hn : 1 ≤ ns.length) : Ints w v ns := by
  rcases h with h | ⟨a, c, rfl, rfl⟩
  · exact h
  · simp at hn
def codeM (n : Int) (ns : List Int) : Int := if GoodM n ns then 0 else 1
set_option maxHeartbeats 8000000 in
theorem check_any (n : Int) (v : Value) (ns : List Int) (w : World) (hv : IntsW w v ns) (hl : ns.length < 9223372036854775808) (ht : Tab w) :
    Calls Tryz.prog 30 #[.agg #[.int .i64 n, v]] w fun e w' => e = .returned (.int .i64 (codeM n ns)) ∧ Below w.heap.size w w' := by
  have HV := Lib.hid hv
  have HT := Lib.hid ht
  obtain ⟨va, vc, rfl⟩ := hv.slice
  clear hv ht
  go_enter Tryz.func30, Tryz.ntmps30
  have hb1 : Below w.heap.size w (w.alloc (.cells #[.int .i64 n, .slice va ns.length vc] 37)) := (Below.refl _ _).alloc (Nat.le_refl _) _
  by_cases h1 : 1 ≤ n ∧ n ≤ 2147483647
  · by_cases h2 : 1 ≤ ns.length ∧ ns.length ≤ 32
    · have l1 : ¬ n < 1 := by omega
      have l2 : ¬ n > 2147483647 := by omega
      have l3 : ¬ (ns.length : Int) < 1 := by omega
      have l4 : ¬ (ns.length : Int) > 32 := by omega
      have HCM : Hid (codeM n ns = if risB 0 ns = true then 0 else 1) := by
        show _ = _
        unfold codeM
        by_cases h3 : risB 0 ns = true
        · rw [if_pos (show GoodM n ns from ⟨h1, h2, h3⟩), if_pos h3]
        · rw [if_neg (fun h : GoodM n ns => h3 h.2.2), if_neg h3]
      go_wp2_with fail
      go_loopw [3, 27] (fun s3 s27 wr => ∃ (i : Nat) (l : Int), i ≤ ns.length ∧ s27 = .int .i64 i ∧ s3 = .int .i64 l ∧ risB l (ns.drop i) = risB 0 ns ∧ Below w.heap.size w wr)
        (fun _ s27 _ => ns.length - (intOf s27).toNat)
      case atStart => exact ⟨0, 0, by omega, rfl, rfl, rfl, hb1⟩
      case round =>
        clear hb1
        obtain ⟨i, l, hi, rfl, rfl, hr, hb⟩ := hrel
        have HB := Lib.hid hb
        clear hb
        by_cases hlt : i < ns.length
        · obtain ⟨b, o, cap, e, hbl, hrg⟩ : ∃ b o cap, Value.slice va ns.length vc = .slice (some ⟨b, o, none⟩) ns.length cap ∧ b < w.heap.size ∧ w.rangeAt b o (ns.map (Value.int .i64)) := by
            rcases HV.out with (⟨e, h0⟩ | ⟨b, o, cap, e, h1, h2⟩) | ⟨_, _, _, h0⟩
            · subst h0; simp at hlt
            · exact ⟨b, o, cap, e, h1, h2⟩
            · subst h0; simp at hlt
          cases e
          have hc : wr.cell? ⟨b, o + i, none⟩ = some (.int .i64 (ns.getD i 0)) := by
            rw [World.cell?_of_block (w := w) (HB.out.block b hbl)]
            exact hrg i _ (by rw [List.getElem?_map, List.getD_eq_getElem?_getD, List.getElem?_eq_getElem hlt]; rfl)
          have hdr : ns.drop i = ns.getD i 0 :: ns.drop (i + 1) := by rw [List.drop_eq_getElem_cons hlt, List.getD_eq_getElem?_getD, List.getElem?_eq_getElem hlt]; rfl
          rw [hdr] at hr
          have HID := Lib.hid (isID_any (ns.getD i 0) wr (HT.out.below HB.out))
          have hll : (i : Int) < ns.length := by omega
          generalize ns.getD i 0 = x at *
          clear hrg hdr
          rw [risB_cons] at hr
          by_cases hx : x ≤ l
          · have hf : risB 0 ns = false := by rw [← hr, decide_eq_false (by omega)]; rfl
            have HE : Hid (codeM n ns = 1) := by show _ = _; rw [HCM.out, hf]; rfl
            clear hr hf HID
            go_wp2_with fail
            go_ret
            exact ⟨by rw [HE.out]; rfl, HB.out⟩
          · by_cases hd : 1 ≤ x ∧ x ≤ 2147483647
            · have hr2 : risB x (ns.drop (i + 1)) = risB 0 ns := by rw [← hr, decide_eq_true (show l < x by omega), decide_eq_true hd]; simp
              have HR2 := Lib.hid hr2
              rw [decide_eq_true hd] at HID
              clear hr hr2 hd
              go_wp2_with fail
              refine HID.out.mono ?_; rintro e w1 ⟨rfl, hb1⟩
              have HB1 := Lib.hid (HB.out.trans (hb1.mono HB.out.size))
              clear hb1 HID
              go_wp2_with fail
              go_roundw
              case rel => exact ⟨i + 1, x, by omega, by go_num, rfl, HR2.out, HB1.out⟩
              case measure => simp [intOf]; omega
            · have hf : risB 0 ns = false := by rw [← hr, decide_eq_false hd]; simp
              have HE : Hid (codeM n ns = 1) := by show _ = _; rw [HCM.out, hf]; rfl
              rw [decide_eq_false hd] at HID
              clear hr hf hd
              go_wp2_with fail
              refine HID.out.mono ?_; rintro e w1 ⟨rfl, hb1⟩
              have HB1 := Lib.hid (HB.out.trans (hb1.mono HB.out.size))
              clear hb1 HID
              go_wp2_with fail
              go_ret
              exact ⟨by rw [HE.out]; rfl, HB1.out⟩
        · have hf : risB 0 ns = true := by
            rw [← hr, List.drop_eq_nil_of_le (by omega)]
            rfl
          have HE : Hid (codeM n ns = 0) := by show _ = _; rw [HCM.out, hf]; rfl
          have hll : ¬ (i : Int) < ns.length := by omega
          clear hr hf
          go_wp2_with fail
          go_ret
          exact ⟨by rw [HE.out]; rfl, HB.out⟩
    · have HE : Hid (codeM n ns = 1) := by show _ = _; unfold codeM; rw [if_neg (fun h : GoodM n ns => h2 h.2.1)]
      have l1 : ¬ n < 1 := by omega
      have l2 : ¬ n > 2147483647 := by omega
      by_cases h3 : ns.length < 1
      · have l3 : (ns.length : Int) < 1 := by omega
        go_wp2_with fail
        go_ret
        exact ⟨by rw [HE.out]; rfl, hb1⟩
      · have l3 : ¬ (ns.length : Int) < 1 := by omega
        have l4 : (ns.length : Int) > 32 := by omega
        go_wp2_with fail
        go_ret
        exact ⟨by rw [HE.out]; rfl, hb1⟩
  · have HE : Hid (codeM n ns = 1) := by show _ = _; unfold codeM; rw [if_neg (fun h : GoodM n ns => h1 h.1)]
    by_cases h3 : n < 1
    · go_wp2_with fail
      go_ret
      exact ⟨by rw [HE.out]; rfl, hb1⟩
    · have l2 : n > 2147483647 := by omega
      go_wp2_with fail
      go_ret
      exact ⟨by rw [HE.out]; rfl, hb1⟩
end Go.Proofs.YtkdjkmnalkalpaaGreatDoor
