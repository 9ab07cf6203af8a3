/- Package manifest: what Decode answers. -/
import Derived.Test.YtkdjkmnalkalpaaGreatDoorMfE
namespace Go.Proofs.YtkdjkmnalkalpaaGreatDoor
open Go.RowKit
set_option maxRecDepth 100000

def IntsAt (w : World) (B : Nat) (u : Value) (ns : List Int) : Prop := ∃ b o cap, u = .slice (some ⟨b, o, none⟩) ns.length cap ∧ B ≤ b ∧ b < w.heap.size ∧ w.rangeAt b o (ns.map (Value.int .i64))
theorem IntsAt.ints {w : World} {B : Nat} {u : Value} {ns : List Int} (h : IntsAt w B u ns) : Ints w u ns := by
  obtain ⟨b, o, cap, h1, _, h3, h4⟩ := h
  exact .inr ⟨b, o, cap, h1, h3, h4⟩
theorem IntsAt.below {w w' : World} {B : Nat} {u : Value} {ns : List Int} (h : IntsAt w B u ns) (hb : Below w.heap.size w w') : IntsAt w' B u ns := by
  obtain ⟨b, o, cap, h1, h2, h3, h4⟩ := h
  exact ⟨b, o, cap, h1, h2, Nat.lt_of_lt_of_le h3 hb.size, fun j x hx => by rw [World.cell?_of_block (w := w) (hb.block b h3)]; exact h4 j x hx⟩
theorem IntsAt.set {w : World} {B k : Nat} {u v : Value} {ns : List Int} (h : IntsAt w (B + 1) u ns) : IntsAt (w.setCell ⟨B, k, none⟩ v) (B + 1) u ns := by
  obtain ⟨b, o, cap, h1, h2, h3, h4⟩ := h
  refine ⟨b, o, cap, h1, h2, by rw [set_size]; exact h3, fun j x hx => ?_⟩
  rw [World.cell?_of_block (w := w) (set_other (show b ≠ B by omega))]
  exact h4 j x hx
theorem IntsAt.low {w : World} {B B' : Nat} {u : Value} {ns : List Int} (h : IntsAt w B u ns) (hb : B' ≤ B) : IntsAt w B' u ns := by
  obtain ⟨b, o, cap, h1, h2, h3, h4⟩ := h
  exact ⟨b, o, cap, h1, Nat.le_trans hb h2, h3, h4⟩
theorem manB_byt (n : Int) (ns : List Int) : Fr.Byt (manB n ns) := Fr.frameI_byt (k := 9) (by omega) (by omega) (textM_byt n ns)
theorem bytesOf_inj {p q : List Int} (hp : Fr.Byt p) (hq : Fr.Byt q) : (Lib.bytesOf p == Lib.bytesOf q) = decide (p = q) := by
  by_cases h : p = q
  · subst h; simp
  · rw [decide_eq_false h]
    have : ¬ Lib.bytesOf p = Lib.bytesOf q := fun e => h (Fr.strOfNums_inj hp hq (by
      unfold Lib.bytesOf at e
      unfold strOfNums
      rw [e]))
    simpa using this
theorem in_of_bytesE {w : World} {a : Option Addr} {c : Nat} {p : List Int} (h : Fr.BytesE w (.slice a p.length c) p) : Lib.BytesIn w a p.length p := fun h0 => by
  rcases h with (⟨_, h2⟩ | ⟨b, o, cap, e, _, _, h4⟩) | ⟨ad, cap, _, h2⟩
  · subst h2; simp at h0
  · cases e
    exact ⟨b, o, rfl, fun i hi => h4 i _ (by rw [List.getElem?_map, List.getD_eq_getElem?_getD, List.getElem?_eq_getElem hi]; rfl)⟩
  · subst h2; simp at h0
theorem piece_of_bytes {w : World} {a : Option Addr} {c : Nat} {p : List Int} (h : Fr.Bytes w (.slice a p.length c) p) : PieceV (fun k => k < w.heap.size) w.heap.size w (.slice a p.length c) p := by
  rcases h with ⟨e, h2⟩ | ⟨b, o, cap, e, h2, h3, h4⟩
  · subst h2
    cases e
    exact ⟨none, 0, rfl, Nat.le_refl _, fun _ => rfl, fun h => by simp at h⟩
  · cases e
    exact ⟨_, _, rfl, h2, (fun e => by cases e), fun _ => ⟨b, o, rfl, h3, by omega, fun i hi => h4 i _ (by rw [List.getElem?_map, List.getD_eq_getElem?_getD, List.getElem?_eq_getElem hi]; rfl)⟩⟩
def DecQ (w : World) (b : List Int) (e : Ending) (w' : World) : Prop :=
  Below w.heap.size w w' ∧ ((∃ n ns u, decM b = some (n, ns) ∧ e = .returned (.tuple #[.agg #[.int .i64 n, u], .int .i64 0]) ∧ IntsAt w' w.heap.size u ns) ∨ (decM b = none ∧ e = .returned (.tuple #[.agg #[.int .i64 0, .slice none 0 0], .int .i64 2])))
theorem payload_byt {b : List Int} (hb : Fr.Byt b) : Fr.Byt (Fr.decodeI b).2.1 ∧ (Fr.decodeI b).2.1.length ≤ b.length := by
  unfold Fr.decodeI
  split
  · unfold Fr.decI
    split
    · split
      · exact ⟨(hb.drop _).take _, by simp only [List.length_take, List.length_drop]; omega⟩
      · exact ⟨Fr.Byt.nil, Nat.zero_le _⟩
    · exact ⟨Fr.Byt.nil, Nat.zero_le _⟩
  · exact ⟨Fr.Byt.nil, Nat.zero_le _⟩
set_option maxHeartbeats 16000000 in
theorem decM_any (v : Value) (b : List Int) (w : World) (hv : Fr.BytesE w v b) (hb : Fr.Byt b) (hl : b.length < 100000) (hn : NumL w) :
    Calls Tryz.prog 31 #[v] w (DecQ w b) := by
  obtain ⟨va, vc, rfl⟩ := hv.slice
  obtain ⟨wx, hwx⟩ : ∃ wx, wx = w.alloc (.cells #[.int .i64 0, .slice none 0 0] 37) := ⟨_, rfl⟩
  have hbx : Below w.heap.size w wx := by rw [hwx]; exact (Below.refl _ _).alloc (Nat.le_refl _) _
  have hkx : Blk wx w.heap.size 37 [.int .i64 0, .slice none 0 0] := by rw [hwx]; exact Blk.new w _ _
  have HFD := Lib.hid (Fr.decodeTop_any (.slice va b.length vc) b wx (hv.below hbx) hb (by omega))
  have HBX := Lib.hid hbx
  have HKX := Lib.hid hkx
  have HV := Lib.hid hv
  have HB := Lib.hid hb
  have HL := Lib.hid hl
  have HN := Lib.hid hn
  obtain ⟨hpb, hpl⟩ := payload_byt hb
  have HPB := Lib.hid hpb
  have HPL := Lib.hid hpl
  clear hv hb hl hn hbx hkx hpb hpl
  have HDM : Hid (decM b = if (Fr.decodeI b).2.2 = 0 then match numsP (cutP (trimP (Fr.decodeI b).2.1)) with
    | some (n :: ns) => if GoodM n ns ∧ manB n ns = b then some (n, ns) else none
    | _ => none
  else none) := rfl
  obtain ⟨kd, q, cd, hdq⟩ : ∃ kd q cd, Fr.decodeI b = (kd, q, cd) := ⟨_, _, _, rfl⟩
  rw [hdq] at HFD HPB HPL HDM
  clear hdq
  simp only at HFD HPB HPL HDM
  go_enter Tryz.func31, Tryz.ntmps31
  go_upto_region 1 with fail
  rw [← hwx]
  clear hwx
  go_wp2_with fail
  refine HFD.out.mono ?_; rintro e w1 ⟨v1, rfl, ho1, hb1⟩
  obtain ⟨ga, gc, rfl⟩ := ho1.slice
  have HO1 := Lib.hid ho1
  have HB1 := Lib.hid (HBX.out.trans (hb1.mono HBX.out.size))
  have HK1 := Lib.hid (blk_stay hb1 HKX.out)
  clear ho1 hb1 HFD HKX HBX
  go_upto_region 2 with fail
  refine Fr.wp_world fun w2 hw2 => ?_
  have hb12 : Below w1.heap.size w1 w2 := by rw [hw2]; exact (Below.refl _ _).alloc (Nat.le_refl _) _
  have hkf : Blk w2 w1.heap.size 161 [.int .i64 kd, .slice ga q.length gc] := by rw [hw2]; exact Blk.new w1 _ _
  have hz2 : w2.heap.size = w1.heap.size + 1 := by rw [hw2]; simp
  have HB2 := Lib.hid (HB1.out.trans (hb12.mono HB1.out.size))
  have HK2 := Lib.hid (blk_stay hb12 HK1.out)
  have HKF := Lib.hid hkf
  have HQ2 := Lib.hid (HO1.out.keep hb12).bytes
  have HZ2 := Lib.hid hz2
  clear hw2 hb12 hkf hz2
  by_cases hc : cd = 0
  · subst hc
    have f1 := HKF.out.cell (i := 1) rfl
    have HPA := Lib.hid (parse_any ga gc q w2 (piece_of_bytes HQ2.out) HPB.out (by have := HL.out; have := HPL.out; omega) (HN.out.syn.below HB2.out) (HN.out.rng.below HB2.out))
    go_wp2_with fail
    refine HPA.out.mono ?_; rintro e w3 ⟨hpr, hb3⟩
    clear HPA f1
    rcases hpr with ⟨n, ns, u, hnum, rfl, hu⟩ | ⟨hnum, rfl⟩
    · obtain ⟨ub, uo, uc, rfl, hul, hus, hur⟩ := hu
      have HDN : Hid (decM b = if GoodM n ns ∧ manB n ns = b then some (n, ns) else none) := by show _ = _; rw [HDM.out, if_pos trivial, hnum]
      have hnl : ns.length < 200000 := by
        have h1 := numsP_length hnum
        have h2 := cutP_length (trimP q)
        have h3 : (trimP q).length ≤ q.length := by unfold trimP; split <;> simp
        have := HPL.out
        have := HL.out
        simp at h1
        omega
      have HB3 := Lib.hid (HB2.out.trans (hb3.mono HB2.out.size))
      have HK3 := Lib.hid (blk_stay hb3 HK2.out)
      have HUI : Hid (IntsAt w3 (w.heap.size + 1) (.slice (some ⟨ub, uo, none⟩) ns.length uc) ns) := ⟨ub, uo, uc, rfl, by have := HZ2.out; have := HB1.out.size; omega, hus, hur⟩
      clear hb3 hnum hul hus hur HQ2 HKF HDM
      go_upto_region 5 with fail
      refine Fr.wp_world fun w4 hw4 => ?_
      have hb34 : Below w3.heap.size w3 w4 := by rw [hw4]; exact (Below.refl _ _).alloc (Nat.le_refl _) _
      have hkm : Blk w4 w3.heap.size 37 [.int .i64 n, .slice (some ⟨ub, uo, none⟩) ns.length uc] := by rw [hw4]; exact Blk.new w3 _ _
      have HB4 := Lib.hid (HB3.out.trans (hb34.mono HB3.out.size))
      have HK4 := Lib.hid (blk_stay hb34 HK3.out)
      have HKM := Lib.hid hkm
      have HU4 := Lib.hid (HUI.out.below hb34)
      have HNL := Lib.hid hnl
      have HEN := Lib.hid (encM_any n (.slice (some ⟨ub, uo, none⟩) ns.length uc) ns w4 (.inl HU4.out.ints) (by omega) (HN.out.tab.below HB4.out))
      clear hw4 hb34 hkm hnl HUI
      have m0 := HKM.out.cell (i := 0) rfl
      have m1 := HKM.out.cell (i := 1) rfl
      go_wp2_with fail
      refine HEN.out.mono ?_; rintro e w5 ⟨hb5, hq5⟩
      clear HEN m0 m1
      have HB5 := Lib.hid (HB4.out.trans (hb5.mono HB4.out.size))
      have HK5 := Lib.hid (blk_stay hb5 HK4.out)
      have HM5 := Lib.hid (blk_stay hb5 HKM.out)
      have HU5 := Lib.hid (HU4.out.below hb5)
      clear hb5
      have x0 := HK5.out.cell (i := 0) rfl
      have x1 := HK5.out.cell (i := 1) rfl
      have g0 := HK5.out.frozen 0
      have g1 := HK5.out.frozen 1
      rcases hq5 with ⟨hg, v5, rfl, ho5⟩ | ⟨hg, rfl⟩
      · obtain ⟨va5, vc5, rfl⟩ := ho5.slice
        have HG := Lib.hid hg
        have HEQ := Lib.hid (Tryz.bytes_Equal_all va5 va (manB n ns).length vc5 b.length vc (manB n ns) b w5 rfl rfl (in_of_bytesE (.inl ho5.bytes)) (in_of_bytesE (HV.out.below HB5.out)))
        rw [bytesOf_inj (manB_byt n ns) HB.out] at HEQ
        clear hg ho5
        by_cases he : manB n ns = b
        · have HE : Hid (decM b = some (n, ns)) := by show _ = _; rw [HDN.out, if_pos ⟨HG.out, he⟩]
          rw [decide_eq_true he] at HEQ
          clear he
          have m0 := HM5.out.cell (i := 0) rfl
          have m1 := HM5.out.cell (i := 1) rfl
          go_wp2_with fail
          refine HEQ.out.mono ?_; rintro e w6 ⟨rfl, rfl⟩
          go_wp2_with fail
          refine bodyPost_ret (v := .tuple #[.agg #[.int .i64 n, .slice (some ⟨ub, uo, none⟩) ns.length uc], .int .i64 0]) (by simp [results, Tryz.results31, go_sem, x0, x1]) rfl ?_
          exact ⟨(HB5.out.setCell (p := ⟨w.heap.size, 0, none⟩) (Nat.le_refl _) _).setCell (p := ⟨w.heap.size, 1, none⟩) (Nat.le_refl _) _, .inl ⟨n, ns, _, HE.out, rfl, (HU5.out.set.set).low (Nat.le_succ _)⟩⟩
        · have HE : Hid (decM b = none) := by show _ = _; rw [HDN.out, if_neg (fun h => he h.2)]
          rw [decide_eq_false he] at HEQ
          clear he
          go_wp2_with fail
          refine HEQ.out.mono ?_; rintro e w6 ⟨rfl, rfl⟩
          go_wp2_with fail
          refine bodyPost_ret (v := .tuple #[.agg #[.int .i64 0, .slice none 0 0], .int .i64 2]) (by simp [results, Tryz.results31, go_sem, x0, x1]) rfl ?_
          exact ⟨(HB5.out.setCell (p := ⟨w.heap.size, 0, none⟩) (Nat.le_refl _) _).setCell (p := ⟨w.heap.size, 1, none⟩) (Nat.le_refl _) _, .inr ⟨HE.out, rfl⟩⟩
      · have HE : Hid (decM b = none) := by show _ = _; rw [HDN.out, if_neg (fun h => hg h.1)]
        clear hg
        go_wp2_with fail
        refine bodyPost_ret (v := .tuple #[.agg #[.int .i64 0, .slice none 0 0], .int .i64 2]) (by simp [results, Tryz.results31, go_sem, x0, x1]) rfl ?_
        exact ⟨(HB5.out.setCell (p := ⟨w.heap.size, 0, none⟩) (Nat.le_refl _) _).setCell (p := ⟨w.heap.size, 1, none⟩) (Nat.le_refl _) _, .inr ⟨HE.out, rfl⟩⟩
    · have HE : Hid (decM b = none) := by show _ = _; rw [HDM.out, if_pos trivial, hnum]
      have HB3 := Lib.hid (HB2.out.trans (hb3.mono HB2.out.size))
      have HK3 := Lib.hid (blk_stay hb3 HK2.out)
      clear hb3 hnum
      go_upto_region 5 with fail
      refine Fr.wp_world fun w4 hw4 => ?_
      have hb34 : Below w3.heap.size w3 w4 := by rw [hw4]; exact (Below.refl _ _).alloc (Nat.le_refl _) _
      have HB4 := Lib.hid (HB3.out.trans (hb34.mono HB3.out.size))
      have HK4 := Lib.hid (blk_stay hb34 HK3.out)
      clear hw4 hb34
      have x0 := HK4.out.cell (i := 0) rfl
      have x1 := HK4.out.cell (i := 1) rfl
      have g0 := HK4.out.frozen 0
      have g1 := HK4.out.frozen 1
      go_wp2_with fail
      refine bodyPost_ret (v := .tuple #[.agg #[.int .i64 0, .slice none 0 0], .int .i64 2]) (by simp [results, Tryz.results31, go_sem, x0, x1]) rfl ?_
      exact ⟨(HB4.out.setCell (p := ⟨w.heap.size, 0, none⟩) (Nat.le_refl _) _).setCell (p := ⟨w.heap.size, 1, none⟩) (Nat.le_refl _) _, .inr ⟨HE.out, rfl⟩⟩
  · have HE : Hid (decM b = none) := by show _ = _; rw [HDM.out, if_neg hc]
    have x0 := HK2.out.cell (i := 0) rfl
    have x1 := HK2.out.cell (i := 1) rfl
    have g0 := HK2.out.frozen 0
    have g1 := HK2.out.frozen 1
    go_wp2_with fail
    refine bodyPost_ret (v := .tuple #[.agg #[.int .i64 0, .slice none 0 0], .int .i64 2]) (by simp [results, Tryz.results31, go_sem, x0, x1]) rfl ?_
    exact ⟨(HB2.out.setCell (p := ⟨w.heap.size, 0, none⟩) (Nat.le_refl _) _).setCell (p := ⟨w.heap.size, 1, none⟩) (Nat.le_refl _) _, .inr ⟨HE.out, rfl⟩⟩
end Go.Proofs.YtkdjkmnalkalpaaGreatDoor
