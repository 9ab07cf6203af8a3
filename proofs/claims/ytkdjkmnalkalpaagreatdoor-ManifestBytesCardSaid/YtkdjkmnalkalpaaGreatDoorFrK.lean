/- Package frame: a copy of bytes; the size of the frame that bytes begin with; the frame of bytes. Package frame: 'decode': the frame of bytes whose length is right. Package frame: 'Decode'. Frames and back: the numbers; what Encode answers where there is no frame; bytes of one's own that are written. -/
import Derived.Test.YtkdjkmnalkalpaaGreatDoorFrG
namespace Go.Proofs.YtkdjkmnalkalpaaGreatDoor.Fr
open Go.RowKit
set_option maxRecDepth 100000

theorem eql_nil (w : World) (a : Option Addr) (n c n' c' : Nat) : (binOp .eql 38 (.slice a n c) (.slice none n' c')).run Tryz.prog w = .ok (.bool a.isNone) w := Lib.run_eql_slice_nil w _ _ a n c n' c' Tryz.underlying38

set_option maxHeartbeats 1000000 in
theorem clone_any (v : Value) (p : List Int) (w : World) (hb : BytesE w v p) (hl : p.length ≤ 1000000) :
    Calls Tryz.prog 105 #[v] w fun e w' => ∃ v', e = .returned v' ∧ OwnB w' w.heap.size v' p ∧ Below w.heap.size w w' := by
  have q := eql_nil
  obtain ⟨va, vc, rfl⟩ := hb.slice
  cases va with
  | none =>
    have hp : p = [] ∧ vc = 0 := by
      rcases hb with (⟨h1, h2⟩ | ⟨pb, po, cap, h1, _⟩) | ⟨ad, cap, h1, _⟩
      · subst h2; cases h1; exact ⟨rfl, rfl⟩
      · cases h1
      · cases h1
    obtain ⟨rfl, rfl⟩ := hp
    go_enter Tryz.func105, Tryz.ntmps105
    go_wp2_with fail
    go_ret
    exact ⟨_, rfl, World.ownsRow_nil _ _ _ _, Below.refl _ _⟩
  | some ad =>
    go_enter Tryz.func105, Tryz.ntmps105
    have hown0 : OwnB (w.alloc (.cells #[] 5)) w.heap.size (.slice (some ⟨w.heap.size, 0, none⟩) 0 0) [] := World.ownsRow_lit w #[] 0 (Nat.le_refl _) (by unfold maxLen; omega) rfl
    have hB2 : Below w.heap.size w (w.alloc (.cells #[] 5)) := (Below.refl _ _).alloc (Nat.le_refl _) _
    have HO := Lib.hid hown0
    have HB := Lib.hid hB2
    have HBE := Lib.hid hb
    clear hown0 hB2 hb
    go_wp2_with (with_reducible refine wpList_append_bytesE rfl (.tmp 5) (.tmp 6) rfl w.heap.size _ _ [] p ?_ HO.out ?_ HBE.out HB.out ?_ HB.out.size ?_)
    case refine_1 => rfl
    case refine_2 => rfl
    case refine_3 => simp; omega
    intro v1 w2 hown2 hg2
    have hB3 := Lib.hid (HB.out.trans (HO.out.below hg2 HB.out.size))
    obtain ⟨g2, c2, rfl⟩ := hown2.slice
    have HO2 := Lib.hid hown2
    clear hown2 hg2 HO HB
    go_wp2_with fail
    go_ret
    exact ⟨_, rfl, HO2.out, hB3.out⟩

def sizeF (p : List Int) : Int × Bool := if 9 ≤ p.length ∧ numI p ≤ 8192 ∧ numI p + 9 ≤ p.length then (numI p + 9, true) else (0, false)
theorem numI_bounds {p : List Int} (hy : Byt p) : 0 ≤ numI p ∧ numI p ≤ 4294967295 := by
  have h0 := hy.getD 0
  have h1 := hy.getD 1
  have h2 := hy.getD 2
  have h3 := hy.getD 3
  rw [numI_is]; omega

set_option maxHeartbeats 1000000 in
theorem frameSize_any (v : Value) (p : List Int) (w : World) (hb : BytesE w v p) (hy : Byt p) (hl : p.length < 9223372036854775807) :
    Calls Tryz.prog 150 #[v] w fun e w' => e = .returned (.tuple #[.int .i64 (sizeF p).1, .bool (sizeF p).2]) ∧ w = w' := by
  obtain ⟨va, vc, rfl⟩ := hb.slice
  have HBE := Lib.hid hb
  have HY := Lib.hid hy
  have ⟨n0, n1⟩ := numI_bounds hy
  clear hb hy
  by_cases h9 : p.length < 9
  · have HS : Hid (sizeF p = (0, false)) := by show _ = _; unfold sizeF; rw [if_neg (by omega)]
    generalize sizeF p = s at *
    clear n0 n1
    have h9' : (p.length : Int) < 9 := by omega
    go_enter Tryz.func150, Tryz.ntmps150
    go_wp2_with fail
    go_ret2
    exact ⟨by rw [HS.out]; rfl, rfl⟩
  · have cN := Lib.hid (numberOf_any _ p w HBE.out (by omega) HY.out)
    have h9' : ¬ (p.length : Int) < 9 := by omega
    by_cases hbig : numI p ≤ 8192 ∧ numI p + 9 ≤ p.length
    · have HS : Hid (sizeF p = (numI p + 9, true)) := by show _ = _; unfold sizeF; rw [if_pos ⟨by omega, hbig⟩]
      obtain ⟨k1, k2⟩ := hbig
      generalize sizeF p = s at *
      generalize numI p = n at *
      have k3 : ¬ 8192 < n := by omega
      have k4 : ¬ (p.length : Int) < n + 9 := by omega
      go_enter Tryz.func150, Tryz.ntmps150
      go_wp2_with fail
      refine cN.out.mono ?_; rintro e w' ⟨rfl, rfl⟩
      go_wp2_with fail
      go_ret2
      exact ⟨by rw [HS.out]; rfl, rfl⟩
    · have HS : Hid (sizeF p = (0, false)) := by show _ = _; unfold sizeF; rw [if_neg (by omega)]
      generalize sizeF p = s at *
      generalize numI p = n at *
      by_cases k3 : 8192 < n
      · clear hbig
        go_enter Tryz.func150, Tryz.ntmps150
        go_wp2_with fail
        refine cN.out.mono ?_; rintro e w' ⟨rfl, rfl⟩
        go_wp2_with fail
        go_ret2
        exact ⟨by rw [HS.out]; rfl, rfl⟩
      · have k4 : (p.length : Int) < n + 9 := by omega
        clear hbig
        go_enter Tryz.func150, Tryz.ntmps150
        go_wp2_with fail
        refine cN.out.mono ?_; rintro e w' ⟨rfl, rfl⟩
        go_wp2_with fail
        go_ret2
        exact ⟨by rw [HS.out]; rfl, rfl⟩
end Go.Proofs.YtkdjkmnalkalpaaGreatDoor.Fr
namespace Go.Proofs.YtkdjkmnalkalpaaGreatDoor.Fr
open Go.RowKit
set_option maxRecDepth 100000

theorem tsum_one (g : Nat) {a : Option Addr} {n c : Nat} {p : List Int} {w0 : World} (wx : World) (ht : Blk w0 g 280 (tabI.map (Value.int .u32))) (hb : BytesE w0 (.slice a n c) p) (hy : Byt p) (hl : p.length < 9223372036854775807) (hbw : Below w0.heap.size w0 wx) :
    Calls Tryz.prog 192 #[.pointer (some ⟨g, 0, none⟩), .slice (some ⟨wx.heap.size, 0, none⟩) 1 1] (wx.alloc (.cells #[.slice a n c] 38)) fun e w' => e = .returned (.int .u32 (sumN p : Nat)) ∧ wx.alloc (.cells #[.slice a n c] 38) = w' := by
  have hk : Blk (wx.alloc (.cells #[.slice a n c] 38)) wx.heap.size 38 [.slice a n c] := Blk.new wx 38 [.slice a n c]
  have hB : Below wx.heap.size wx (wx.alloc (.cells #[.slice a n c] 38)) := (Below.refl _ _).alloc (Nat.le_refl _) _
  have hB0 : Below w0.heap.size w0 (wx.alloc (.cells #[.slice a n c] 38)) := hbw.trans (hB.mono hbw.size)
  have := tsum_any g (.slice (some ⟨wx.heap.size, 0, none⟩) 1 1) [p] (wx.alloc (.cells #[.slice a n c] 38)) (Below.blk hB0 ht.lt ht) (.inr ⟨wx.heap.size, 0, 1, rfl, hk.lt, fun i hi => by
    have : i = 0 := by simpa using hi
    subst this
    exact ⟨_, hk.cell rfl, hb.below hB0⟩⟩) (by simp) (fun i hi => by
    have : i = 0 := by simpa using hi
    subst this
    exact ⟨hl, hy⟩)
  rw [show [p].flatten = p by simp] at this
  exact this

theorem OwnB.mono {w : World} {base base' : Nat} {v : Value} {ys : List Int} (h : OwnB w base v ys) (hb : base' ≤ base) : OwnB w base' v ys := by
  refine ⟨h.1, ?_⟩
  rcases h.2 with h1 | ⟨g, cap, cur, h1, h2, h3, h4⟩
  · exact .inl h1
  · exact .inr ⟨g, cap, cur, h1, Nat.le_trans hb h2, h3, h4⟩
theorem OwnB.set_other {w : World} {base : Nat} {v : Value} {ys : List Int} (h : OwnB w base v ys) {a : Addr} (ha : a.block < base) (u : Value) : OwnB (w.setCell a u) base v ys := by
  refine ⟨h.1, ?_⟩
  rcases h.2 with h1 | ⟨g, cap, cur, h1, h2, h3, h4⟩
  · exact .inl h1
  · exact .inr ⟨g, cap, cur, h1, h2, by rw [heap_setCell_other w a g u (by omega)]; exact h3, h4⟩

def decI (p : List Int) : Int × List Int × Int :=
  if 1 ≤ p.getD 4 0 ∧ p.getD 4 0 ≤ 9 then
    if ((sumN ((p.drop 4).take (p.length - 8)) : Nat) : Int) = numI (p.drop (p.length - 4)) then (p.getD 4 0, (p.drop 5).take (p.length - 9), 0) else (0, [], 6)
  else (0, [], 1)

set_option maxRecDepth 100000 in
set_option maxHeartbeats 4000000 in
theorem decode_any (g : Nat) (v : Value) (p : List Int) (w : World) (ht : Blk w g 280 (tabI.map (Value.int .u32))) (hb : BytesE w v p) (hy : Byt p) (hl : p.length ≤ 8201) (h9 : 9 ≤ p.length) :
    Calls Tryz.prog 152 #[.pointer (some ⟨g, 0, none⟩), v] w fun e w' => ∃ v', e = .returned (.tuple #[.agg #[.int .i64 (decI p).1, v'], .int .i64 (decI p).2.2]) ∧ OwnB w' w.heap.size v' (decI p).2.1 ∧ Below w.heap.size w w' := by
  obtain ⟨va, vc, rfl⟩ := hb.slice
  have c4 : ∃ pb po, va = some ⟨pb, po, none⟩ ∧ pb < w.heap.size ∧ w.cell? ⟨pb, po + 4, none⟩ = some (.int .u8 (p.getD 4 0)) := by
    rcases hb with (⟨_, h2⟩ | ⟨pb, po, cap, h1, h2, h3, h4⟩) | ⟨ad, cap, h1, h2⟩
    · subst h2; simp at h9
    · cases h1
      exact ⟨pb, po, rfl, h3, h4 4 _ (by rw [List.getElem?_map, getD_some (by omega)]; rfl)⟩
    · subst h2; simp at h9
  obtain ⟨pb, po, rfl, hpb, hc4⟩ := c4
  have hc4' : (w.alloc (.cells #[.int .i64 0, .slice none 0 0] 161)).cell? ⟨pb, po + 4, none⟩ = some (.int .u8 (p.getD 4 0)) := by
    rw [World.cell?_of_block (w := w) (Below.heap_alloc w _ pb hpb)]; exact hc4
  have ⟨k0, k1⟩ := hy.getD 4
  obtain ⟨s1a, s1c, hs1, hb1⟩ := slice_bytes hb 4 (p.length - 8) (by omega)
  obtain ⟨s2a, s2c, hs2, hb2⟩ := slice_from hb (p.length - 4) 4 (by omega)
  obtain ⟨s3a, s3c, hs3, hb3⟩ := slice_bytes hb 5 (p.length - 9) (by omega)
  have e4 : ((p.length - 4 : Nat) : Int) = (p.length : Int) - 4 := by omega
  have hs1' : ∀ w : World, (Instr.slice 38 (.slice (some ⟨pb, po, none⟩) p.length vc) (some (.int .i64 4)) (some (.int .i64 ((p.length : Int) - 4))) none).run Tryz.prog w = .ok (.slice s1a (p.length - 8) s1c) w := fun w => by rw [← e4]; exact hs1 w (p.length - 4) (by omega)
  have hs2' : ∀ w : World, (Instr.slice 38 (.slice (some ⟨pb, po, none⟩) p.length vc) (some (.int .i64 ((p.length : Int) - 4))) none none).run Tryz.prog w = .ok (.slice s2a 4 s2c) w := fun w => by rw [← e4]; exact hs2 w
  have hs3' : ∀ w : World, (Instr.slice 38 (.slice (some ⟨pb, po, none⟩) p.length vc) (some (.int .i64 5)) (some (.int .i64 ((p.length : Int) - 4))) none).run Tryz.prog w = .ok (.slice s3a (p.length - 9) s3c) w := fun w => by rw [← e4]; exact hs3 w (p.length - 4) (by omega)
  have hl1 : ((p.drop 4).take (p.length - 8)).length = p.length - 8 := by rw [List.length_take, List.length_drop]; omega
  have hl2 : (p.drop (p.length - 4)).length = 4 := by rw [List.length_drop]; omega
  have hl3 : ((p.drop 5).take (p.length - 9)).length = p.length - 9 := by rw [List.length_take, List.length_drop]; omega
  have hy1 : Byt ((p.drop 4).take (p.length - 8)) := (hy.drop 4).take _
  have hy2 : Byt (p.drop (p.length - 4)) := hy.drop _
  have CS : Hid (∀ wx : World, Below w.heap.size w wx → Calls Tryz.prog 192 #[.pointer (some ⟨g, 0, none⟩), .slice (some ⟨wx.heap.size, 0, none⟩) 1 1] (wx.alloc (.cells #[.slice s1a (p.length - 8) s1c] 38)) fun e w' => e = .returned (.int .u32 (sumN ((p.drop 4).take (p.length - 8)) : Nat)) ∧ wx.alloc (.cells #[.slice s1a (p.length - 8) s1c] 38) = w') := by
    show ∀ _, _
    intro wx hx
    exact tsum_one g wx ht hb1 hy1 (by omega) hx
  have CN : Hid (∀ wx : World, Below w.heap.size w wx → Calls Tryz.prog 195 #[.slice s2a 4 s2c] wx fun e w' => e = .returned (.int .u32 (numI (p.drop (p.length - 4)))) ∧ wx = w') := by
    show ∀ _, _
    intro wx hx
    exact numberOf_any _ _ wx (hb2.below hx) (by omega) hy2
  have CC : Hid (∀ wx : World, Below w.heap.size w wx → Calls Tryz.prog 105 #[.slice s3a (p.length - 9) s3c] wx fun e w' => ∃ v', e = .returned v' ∧ OwnB w' wx.heap.size v' ((p.drop 5).take (p.length - 9)) ∧ Below wx.heap.size wx w') := by
    show ∀ _, _
    intro wx hx
    exact clone_any _ _ wx (hb3.below hx) (by omega)
  have HD : Hid (decI p = if 1 ≤ p.getD 4 0 ∧ p.getD 4 0 ≤ 9 then if ((sumN ((p.drop 4).take (p.length - 8)) : Nat) : Int) = numI (p.drop (p.length - 4)) then (p.getD 4 0, (p.drop 5).take (p.length - 9), 0) else (0, [], 6) else (0, [], 1)) := rfl
  clear hb ht hy hb1 hb2 hb3 hs1 hs2 hs3 hl1 hl2 hl3 hy1 hy2 hc4
  have HL3 : Hid (((p.drop 5).take (p.length - 9)).length = p.length - 9) := by show _ = _; rw [List.length_take, List.length_drop]; omega
  generalize p.getD 4 0 = k at *
  generalize sumN ((p.drop 4).take (p.length - 8)) = S at *
  generalize numI (p.drop (p.length - 4)) = N at *
  generalize (p.drop 5).take (p.length - 9) = q at *
  generalize decI p = r at *
  go_enter Tryz.func152, Tryz.ntmps152
  go_wp2_with fail
  refine (isKind_any _ _).mono ?_; rintro e w' ⟨rfl, rfl⟩
  by_cases hk : 1 ≤ k ∧ k ≤ 9
  · have hdk : decide (1 ≤ k ∧ k ≤ 9) = true := by simpa using hk
    rw [hdk]
    rw [if_pos hk] at HD
    clear hdk
    go_upto_region 5 with fail
    refine wp_world fun wz hwz => ?_
    have hBz : Below w.heap.size w wz := by rw [hwz]; exact (Below.refl _ _).alloc (Nat.le_refl _) _
    have hkz : Blk wz w.heap.size 161 [.int .i64 0, .slice none 0 0] := by rw [hwz]; exact Blk.new w 161 [.int .i64 0, .slice none 0 0]
    have HBz := Lib.hid hBz
    have HKz := Lib.hid hkz
    have HS3 := Lib.hid hs3'
    clear hwz hc4' hBz hkz hs3'
    have hBd : Below w.heap.size w wz.drew := HBz.out.drew
    have cS : Calls Tryz.prog 192 #[.pointer (some ⟨g, 0, none⟩), .slice (some ⟨wz.heap.size, 0, none⟩) 1 1] (wz.alloc (.cells #[.slice s1a (p.length - 8) s1c] 38)).drew fun e w' => e = .returned (.int .u32 (S : Nat)) ∧ (wz.alloc (.cells #[.slice s1a (p.length - 8) s1c] 38)).drew = w' := CS.out wz.drew hBd
    have hBa : Below w.heap.size w (wz.alloc (.cells #[.slice s1a (p.length - 8) s1c] 38)).drew := (HBz.out.alloc HBz.out.size _).drew
    have cN := CN.out _ hBa
    have hka : Blk (wz.alloc (.cells #[.slice s1a (p.length - 8) s1c] 38)).drew w.heap.size 161 [.int .i64 0, .slice none 0 0] := (HKz.out.alloc _).drew
    have HCS := Lib.hid cS
    have HCN := Lib.hid cN
    have HBA := Lib.hid hBa
    have HKA := Lib.hid hka
    clear cS cN hBa hka hBd
    go_region_held_law (fun _ => True) (trivial) (first | (go_simp; go_at_call 192; refine HCS.out.mono ?_; rintro e w' ⟨rfl, rfl⟩) | (go_simp; go_at_call 195; refine HCN.out.mono ?_; rintro e w' ⟨rfl, rfl⟩))
    have hwy : ∃ wy, wy = (wz.alloc (.cells #[.slice s1a (p.length - 8) s1c] 38)).drew := ⟨_, rfl⟩
    obtain ⟨wy, hwy⟩ := hwy
    rw [← hwy] at HBA HKA ⊢
    clear hwy HCS HCN CS CN HBz HKz hs1' hs2'
    have c0 := HKA.out.cell (i := 0) rfl
    have c1 := HKA.out.cell (i := 1) rfl
    have f0 := HKA.out.frozen 0
    have f1 := HKA.out.frozen 1
    by_cases hsn : ((S : Nat) : Int) = N
    · rw [if_pos hsn] at HD
      subst hsn
      clear c0 c1 f0 f1
      have hs3' := HS3.out
      go_wp2_with fail
      refine (CC.out _ HBA.out).mono ?_; rintro e w2 ⟨v', rfl, ho2, hb2⟩
      obtain ⟨va2, vc2, hv2⟩ := ho2.slice
      rw [HL3.out] at hv2
      subst hv2
      have hk2 := Below.blk hb2 HKA.out.lt HKA.out
      have c0 := hk2.cell (i := 0) rfl
      have c1 := hk2.cell (i := 1) rfl
      have f0 := hk2.frozen 0
      have f1 := hk2.frozen 1
      have HO2 := Lib.hid ho2
      have HB2 := Lib.hid (HBA.out.trans (hb2.mono HBA.out.size))
      have HK2 := Lib.hid hk2
      clear ho2 hb2 hk2 hs3'
      go_wp2_with fail
      have hk3 := (HK2.out.set 0 (.int .i64 k)).set 1 (.slice va2 (p.length - 9) vc2)
      have d0 := hk3.cell (i := 0) (v := .int .i64 k) rfl
      have d1 := hk3.cell (i := 1) (v := .slice va2 (p.length - 9) vc2) rfl
      clear hk3 c0 c1 f0 f1
      exact bodyPost_ret (v := .tuple #[.agg #[.int .i64 k, .slice va2 (p.length - 9) vc2], .int .i64 0]) (by simp [results, Tryz.results152, go_sem, d0, d1]) rfl ⟨.slice va2 (p.length - 9) vc2, by rw [HD.out],
        by rw [HD.out]; exact ((HO2.out.set_other (a := ⟨w.heap.size, 0, none⟩) HKA.out.lt _).set_other (a := ⟨w.heap.size, 1, none⟩) HKA.out.lt _).mono HBA.out.size, (HB2.out.setCell (p := ⟨w.heap.size, 0, none⟩) (Nat.le_refl _) _).setCell (p := ⟨w.heap.size, 1, none⟩) (Nat.le_refl _) _⟩
    · rw [if_neg hsn] at HD
      have hneq : (((S : Nat) : Int) == N) = false := by simpa using hsn
      clear hsn
      go_wp2_with fail
      have hk3 := (HKA.out.set 0 (.int .i64 0)).set 1 (.slice none 0 0)
      have d0 := hk3.cell (i := 0) (v := .int .i64 0) rfl
      have d1 := hk3.cell (i := 1) (v := .slice none 0 0) rfl
      clear hk3 c0 c1 f0 f1
      exact bodyPost_ret (v := .tuple #[.agg #[.int .i64 0, .slice none 0 0], .int .i64 6]) (by simp [results, Tryz.results152, go_sem, d0, d1]) rfl ⟨.slice none 0 0, by rw [HD.out], by rw [HD.out]; exact World.ownsRow_nil _ _ _ _,
        (HBA.out.setCell (p := ⟨w.heap.size, 0, none⟩) (Nat.le_refl _) _).setCell (p := ⟨w.heap.size, 1, none⟩) (Nat.le_refl _) _⟩
  · have hdk : decide (1 ≤ k ∧ k ≤ 9) = false := by simpa using hk
    rw [hdk]
    rw [if_neg hk] at HD
    clear hdk
    go_wp2_with fail
    exact bodyPost_ret (v := .tuple #[.agg #[.int .i64 0, .slice none 0 0], .int .i64 1]) (by simp [results, Tryz.results152, go_sem]) rfl ⟨_, by rw [HD.out], by rw [HD.out]; exact World.ownsRow_nil _ _ _ _, (Below.refl _ _).alloc (Nat.le_refl _) _⟩
end Go.Proofs.YtkdjkmnalkalpaaGreatDoor.Fr
namespace Go.Proofs.YtkdjkmnalkalpaaGreatDoor.Fr
open Go.RowKit
set_option maxRecDepth 100000

def decodeI (p : List Int) : Int × List Int × Int := if (sizeF p).2 = true ∧ (sizeF p).1 = p.length then decI p else (0, [], 2)

set_option maxRecDepth 100000 in
set_option maxHeartbeats 4000000 in
theorem decodeTop_any (v : Value) (p : List Int) (w : World) (hb : BytesE w v p) (hy : Byt p) (hl : p.length < 9223372036854775807) :
    Calls Tryz.prog 92 #[v] w fun e w' => ∃ v', e = .returned (.tuple #[.agg #[.int .i64 (decodeI p).1, v'], .int .i64 (decodeI p).2.2]) ∧ OwnB w' w.heap.size v' (decodeI p).2.1 ∧ Below w.heap.size w w' := by
  obtain ⟨va, vc, rfl⟩ := hb.slice
  have hkz : Blk (w.alloc (.cells #[.int .i64 0, .slice none 0 0] 161)) w.heap.size 161 [.int .i64 0, .slice none 0 0] := Blk.new w 161 [.int .i64 0, .slice none 0 0]
  have hBz : Below w.heap.size w (w.alloc (.cells #[.int .i64 0, .slice none 0 0] 161)) := (Below.refl _ _).alloc (Nat.le_refl _) _
  obtain ⟨wz, hwz⟩ : ∃ wz, wz = w.alloc (.cells #[.int .i64 0, .slice none 0 0] 161) := ⟨_, rfl⟩
  rw [← hwz] at hkz hBz
  have HWZ := Lib.hid hwz
  have HKZ := Lib.hid hkz
  have HBZ := Lib.hid hBz
  have HBE := Lib.hid (hb.below hBz)
  have HY := Lib.hid hy
  have CF := Lib.hid (frameSize_any _ p wz HBE.out hy hl)
  clear hb hy hkz hBz hwz
  by_cases hc : (sizeF p).2 = true ∧ (sizeF p).1 = p.length
  · have HD : Hid (decodeI p = decI p) := by show _ = _; unfold decodeI; rw [if_pos hc]
    obtain ⟨h2, h1⟩ := hc
    have hsz : 9 ≤ p.length ∧ p.length ≤ 8201 := by
      unfold sizeF at h1 h2
      split at h2
      · rename_i hh
        rw [if_pos hh] at h1
        have : numI p + 9 = p.length := h1
        omega
      · cases h2
    rw [h1, h2] at CF
    clear h1 h2
    have cD : ∀ w1 : World, Blk w1 wz.heap.size 280 (tabI.map (Value.int .u32)) → Below wz.heap.size wz w1 → Calls Tryz.prog 152 #[.pointer (some ⟨wz.heap.size, 0, none⟩), .slice va p.length vc] w1 fun e w' => ∃ v', e = .returned (.tuple #[.agg #[.int .i64 (decI p).1, v'], .int .i64 (decI p).2.2]) ∧ OwnB w' w1.heap.size v' (decI p).2.1 ∧ Below w1.heap.size w1 w' :=
      fun w1 hk1 hb1 => decode_any _ _ p w1 hk1 (HBE.out.below hb1) HY.out hsz.2 hsz.1
    rw [HD.out]
    generalize decI p = r at *
    have CD := Lib.hid cD
    clear cD HD
    go_enter Tryz.func92, Tryz.ntmps92
    go_wp2_with fail
    rw [← HWZ.out]
    refine CF.out.mono ?_; rintro e w' ⟨rfl, rfl⟩
    go_wp2_with fail
    refine (newTable_any _).mono ?_; rintro e w1 ⟨rfl, hk1, hb1⟩
    have HK1 := Lib.hid hk1
    have HB1 := Lib.hid hb1
    clear hk1 hb1
    go_wp2_with fail
    refine (CD.out w1 HK1.out HB1.out).mono ?_; rintro e w2 ⟨v', rfl, ho2, hb2⟩
    have hB2 := HB1.out.trans (hb2.mono HB1.out.size)
    have hk2 := Below.blk hB2 HKZ.out.lt HKZ.out
    have c0 := hk2.cell (i := 0) rfl
    have c1 := hk2.cell (i := 1) rfl
    have f0 := hk2.frozen 0
    have f1 := hk2.frozen 1
    obtain ⟨va2, vc2, rfl⟩ := ho2.slice
    have HO2 := Lib.hid ho2
    have HB2 := Lib.hid (HBZ.out.trans (hB2.mono HBZ.out.size))
    have HK2 := Lib.hid hk2
    clear ho2 hb2 hk2 hB2
    go_wp2_with fail
    have hk3 := (HK2.out.set 0 (.int .i64 r.1)).set 1 (.slice va2 r.2.1.length vc2)
    have d0 := hk3.cell (i := 0) (v := .int .i64 r.1) rfl
    have d1 := hk3.cell (i := 1) (v := .slice va2 r.2.1.length vc2) rfl
    clear hk3 c0 c1 f0 f1
    have hw1 : w.heap.size < w1.heap.size := Nat.lt_of_lt_of_le HKZ.out.lt HB1.out.size
    exact bodyPost_ret (v := .tuple #[.agg #[.int .i64 r.1, .slice va2 r.2.1.length vc2], .int .i64 r.2.2]) (by simp [results, Tryz.results92, go_sem, d0, d1]) rfl ⟨.slice va2 r.2.1.length vc2, rfl,
      ((HO2.out.set_other (a := ⟨w.heap.size, 0, none⟩) hw1 _).set_other (a := ⟨w.heap.size, 1, none⟩) hw1 _).mono (Nat.le_of_lt hw1), (HB2.out.setCell (p := ⟨w.heap.size, 0, none⟩) (Nat.le_refl _) _).setCell (p := ⟨w.heap.size, 1, none⟩) (Nat.le_refl _) _⟩
  · have HD : Hid (decodeI p = (0, [], 2)) := by show _ = _; unfold decodeI; rw [if_neg hc]
    rw [HD.out]
    generalize sizeF p = s at *
    obtain ⟨s1, s2⟩ := s
    simp only at hc CF
    cases s2 with
    | false =>
      clear hc
      go_enter Tryz.func92, Tryz.ntmps92
      go_wp2_with fail
      rw [← HWZ.out]
      refine CF.out.mono ?_; rintro e w' ⟨rfl, rfl⟩
      have c0 := HKZ.out.cell (i := 0) rfl
      have c1 := HKZ.out.cell (i := 1) rfl
      have f0 := HKZ.out.frozen 0
      have f1 := HKZ.out.frozen 1
      go_wp2_with fail
      have hk3 := (HKZ.out.set 0 (.int .i64 0)).set 1 (.slice none 0 0)
      have d0 := hk3.cell (i := 0) (v := .int .i64 0) rfl
      have d1 := hk3.cell (i := 1) (v := .slice none 0 0) rfl
      clear hk3 c0 c1 f0 f1
      exact bodyPost_ret (v := .tuple #[.agg #[.int .i64 0, .slice none 0 0], .int .i64 2]) (by simp [results, Tryz.results92, go_sem, d0, d1]) rfl ⟨.slice none 0 0, rfl, World.ownsRow_nil _ _ _ _,
        (HBZ.out.setCell (p := ⟨w.heap.size, 0, none⟩) (Nat.le_refl _) _).setCell (p := ⟨w.heap.size, 1, none⟩) (Nat.le_refl _) _⟩
    | true =>
      have hne : ¬ s1 = (p.length : Int) := fun h => hc ⟨rfl, h⟩
      have hneq : (s1 == (p.length : Int)) = false := by simpa using hne
      clear hc hne
      go_enter Tryz.func92, Tryz.ntmps92
      go_wp2_with fail
      rw [← HWZ.out]
      refine CF.out.mono ?_; rintro e w' ⟨rfl, rfl⟩
      have c0 := HKZ.out.cell (i := 0) rfl
      have c1 := HKZ.out.cell (i := 1) rfl
      have f0 := HKZ.out.frozen 0
      have f1 := HKZ.out.frozen 1
      go_wp2_with fail
      have hk3 := (HKZ.out.set 0 (.int .i64 0)).set 1 (.slice none 0 0)
      have d0 := hk3.cell (i := 0) (v := .int .i64 0) rfl
      have d1 := hk3.cell (i := 1) (v := .slice none 0 0) rfl
      clear hk3 c0 c1 f0 f1
      exact bodyPost_ret (v := .tuple #[.agg #[.int .i64 0, .slice none 0 0], .int .i64 2]) (by simp [results, Tryz.results92, go_sem, d0, d1]) rfl ⟨.slice none 0 0, rfl, World.ownsRow_nil _ _ _ _,
        (HBZ.out.setCell (p := ⟨w.heap.size, 0, none⟩) (Nat.le_refl _) _).setCell (p := ⟨w.heap.size, 1, none⟩) (Nat.le_refl _) _⟩
end Go.Proofs.YtkdjkmnalkalpaaGreatDoor.Fr
namespace Go.Proofs.YtkdjkmnalkalpaaGreatDoor.Fr
open Go.RowKit
set_option maxRecDepth 100000

theorem numI_four (n : Int) (h0 : 0 ≤ n) (h1 : n < 4294967296) (q : List Int) : numI (fourI n ++ q) = n := by
  rw [numI_is]
  simp only [fourI, List.cons_append, List.nil_append, List.getD_cons_zero, List.getD_cons_succ]
  omega
theorem fourI_length (n : Int) : (fourI n).length = 4 := rfl
theorem frameI_length (k : Int) (p : List Int) : (frameI k p).length = p.length + 9 := by
  unfold frameI innerI
  simp only [List.length_append, fourI_length, List.length_cons]; omega
theorem innerI_byt {k : Int} {p : List Int} (h0 : 1 ≤ k) (h1 : k ≤ 9) (hy : Byt p) : Byt (innerI k p) := fun z hz => by
  rcases List.mem_cons.1 hz with rfl | hz
  · omega
  · exact hy z hz
theorem frameI_byt {k : Int} {p : List Int} (h0 : 1 ≤ k) (h1 : k ≤ 9) (hy : Byt p) : Byt (frameI k p) :=
  (fourI_byt _).append ((innerI_byt h0 h1 hy).append (fourI_byt _))
theorem decodeI_frame {k : Int} {p : List Int} (h0 : 1 ≤ k) (h1 : k ≤ 9) (hy : Byt p) (hl : p.length ≤ 8192) : decodeI (frameI k p) = (k, p, 0) := by
  have hlen := frameI_length k p
  have hs : ((sumN (innerI k p) : Nat) : Int) < 4294967296 := by have := sumN_lt (innerI_byt h0 h1 hy); omega
  have hn : numI (frameI k p) = p.length := numI_four _ (by omega) (by omega) _
  have hz : sizeF (frameI k p) = ((p.length : Int) + 9, true) := by
    unfold sizeF; rw [hn, hlen, if_pos (by omega)]
  have h4 : (frameI k p).getD 4 0 = k := rfl
  have hd4 : (frameI k p).drop 4 = innerI k p ++ fourI (sumN (innerI k p) : Nat) := rfl
  have hil : (innerI k p).length = p.length + 1 := rfl
  have hin : ((frameI k p).drop 4).take ((frameI k p).length - 8) = innerI k p := by
    rw [hd4, hlen, List.take_append_of_le_length (by omega), List.take_of_length_le (by omega)]
  have hsum : (frameI k p).drop ((frameI k p).length - 4) = fourI (sumN (innerI k p) : Nat) := by
    have e : frameI k p = (fourI p.length ++ innerI k p) ++ fourI (sumN (innerI k p) : Nat) := by unfold frameI; rw [List.append_assoc]
    rw [hlen, e, List.drop_append_of_le_length (by rw [List.length_append, hil]; show _ ≤ 4 + _; omega), List.drop_of_length_le (by rw [List.length_append, hil]; show 4 + _ ≤ _; omega)]; rfl
  have hpay : ((frameI k p).drop 5).take ((frameI k p).length - 9) = p := by
    have e : (frameI k p).drop 5 = p ++ fourI (sumN (innerI k p) : Nat) := rfl
    rw [e, hlen, List.take_append_of_le_length (by omega), List.take_of_length_le (by omega)]
  have hns : numI (fourI (sumN (innerI k p) : Nat)) = (sumN (innerI k p) : Nat) := by
    have := numI_four ((sumN (innerI k p) : Nat) : Int) (by omega) hs []
    rwa [List.append_nil] at this
  unfold decodeI
  rw [hz, if_pos ⟨rfl, by rw [hlen]; show (p.length : Int) + 9 = _; omega⟩]
  unfold decI
  rw [h4, if_pos ⟨h0, h1⟩, hin, hsum, hns, if_pos rfl, hpay]

end Go.Proofs.YtkdjkmnalkalpaaGreatDoor.Fr
