/- Package frame: 'decode': the frame of bytes whose length is right. -/
import Derived.Test.YtpfbiijcmmkjlaaDoorFrH
namespace Go.Proofs.YtpfbiijcmmkjlaaDoor.Fr
open Go.RowKit
set_option maxRecDepth 100000

/-- The sum of one part that was laid just before. -/
theorem tsum_one (g : Nat) {a : Option Addr} {n c : Nat} {p : List Int} {w0 : World} (wx : World) (ht : Blk w0 g 119 (tabI.map (Value.int .u32))) (hb : BytesE w0 (.slice a n c) p) (hy : Byt p) (hl : p.length < 9223372036854775807) (hbw : Below w0.heap.size w0 wx) :
    Calls Tryd.prog 64 #[.pointer (some ⟨g, 0, none⟩), .slice (some ⟨wx.heap.size, 0, none⟩) 1 1] (wx.alloc (.cells #[.slice a n c] 32)) fun e w' => e = .returned (.int .u32 (sumN p : Nat)) ∧ wx.alloc (.cells #[.slice a n c] 32) = w' := by
  have hk : Blk (wx.alloc (.cells #[.slice a n c] 32)) wx.heap.size 32 [.slice a n c] := Blk.new wx 32 [.slice a n c]
  have hB : Below wx.heap.size wx (wx.alloc (.cells #[.slice a n c] 32)) := (Below.refl _ _).alloc (Nat.le_refl _) _
  have hB0 : Below w0.heap.size w0 (wx.alloc (.cells #[.slice a n c] 32)) := hbw.trans (hB.mono hbw.size)
  have := tsum_any g (.slice (some ⟨wx.heap.size, 0, none⟩) 1 1) [p] (wx.alloc (.cells #[.slice a n c] 32)) (Below.blk hB0 ht.lt ht) (.inr ⟨wx.heap.size, 0, 1, rfl, hk.lt, fun i hi => by
    have : i = 0 := by simpa using hi
    subst this
    exact ⟨_, hk.cell rfl, hb.below hB0⟩⟩) (by simp) (fun i hi => by
    have : i = 0 := by simpa using hi
    subst this
    exact ⟨hl, hy⟩)
  rw [show [p].flatten = p by simp] at this
  exact this

theorem OwnB.mono {w : World} {base base' : Nat} {v : Value} {ys : List Int} (h : OwnB w base v ys) (hb : base' ≤ base) : OwnB w base' v ys := by
  refine ⟨h.1, ?_⟩
  rcases h.2 with h1 | ⟨g, cap, cur, h1, h2, h3, h4⟩
  · exact .inl h1
  · exact .inr ⟨g, cap, cur, h1, Nat.le_trans hb h2, h3, h4⟩
theorem OwnB.set_other {w : World} {base : Nat} {v : Value} {ys : List Int} (h : OwnB w base v ys) {a : Addr} (ha : a.block < base) (u : Value) : OwnB (w.setCell a u) base v ys := by
  refine ⟨h.1, ?_⟩
  rcases h.2 with h1 | ⟨g, cap, cur, h1, h2, h3, h4⟩
  · exact .inl h1
  · exact .inr ⟨g, cap, cur, h1, h2, by rw [heap_setCell_other w a g u (by omega)]; exact h3, h4⟩

/-- What the bytes' frame is: its kind and payload; the error. -/
def decI (p : List Int) : Int × List Int × Int :=
  if 1 ≤ p.getD 4 0 ∧ p.getD 4 0 ≤ 9 then
    if ((sumN ((p.drop 4).take (p.length - 8)) : Nat) : Int) = numI (p.drop (p.length - 4)) then (p.getD 4 0, (p.drop 5).take (p.length - 9), 0) else (0, [], 6)
  else (0, [], 1)

set_option maxRecDepth 100000 in
set_option maxHeartbeats 4000000 in
theorem decode_any (g : Nat) (v : Value) (p : List Int) (w : World) (ht : Blk w g 119 (tabI.map (Value.int .u32))) (hb : BytesE w v p) (hy : Byt p) (hl : p.length ≤ 8201) (h9 : 9 ≤ p.length) :
    Calls Tryd.prog 47 #[.pointer (some ⟨g, 0, none⟩), v] w fun e w' => ∃ v', e = .returned (.tuple #[.agg #[.int .i64 (decI p).1, v'], .int .i64 (decI p).2.2]) ∧ OwnB w' w.heap.size v' (decI p).2.1 ∧ Below w.heap.size w w' := by
  obtain ⟨va, vc, rfl⟩ := hb.slice
  have c4 : ∃ pb po, va = some ⟨pb, po, none⟩ ∧ pb < w.heap.size ∧ w.cell? ⟨pb, po + 4, none⟩ = some (.int .u8 (p.getD 4 0)) := by
    rcases hb with (⟨_, h2⟩ | ⟨pb, po, cap, h1, h2, h3, h4⟩) | ⟨ad, cap, h1, h2⟩
    · subst h2; simp at h9
    · cases h1
      exact ⟨pb, po, rfl, h3, h4 4 _ (by rw [List.getElem?_map, getD_some (by omega)]; rfl)⟩
    · subst h2; simp at h9
  obtain ⟨pb, po, rfl, hpb, hc4⟩ := c4
  have hc4' : (w.alloc (.cells #[.int .i64 0, .slice none 0 0] 43)).cell? ⟨pb, po + 4, none⟩ = some (.int .u8 (p.getD 4 0)) := by
    rw [World.cell?_of_block (w := w) (Below.heap_alloc w _ pb hpb)]; exact hc4
  have ⟨k0, k1⟩ := hy.getD 4
  obtain ⟨s1a, s1c, hs1, hb1⟩ := slice_bytes hb 4 (p.length - 8) (by omega)
  obtain ⟨s2a, s2c, hs2, hb2⟩ := slice_from hb (p.length - 4) 4 (by omega)
  obtain ⟨s3a, s3c, hs3, hb3⟩ := slice_bytes hb 5 (p.length - 9) (by omega)
  have e4 : ((p.length - 4 : Nat) : Int) = (p.length : Int) - 4 := by omega
  have hs1' : ∀ w : World, (Instr.slice 32 (.slice (some ⟨pb, po, none⟩) p.length vc) (some (.int .i64 4)) (some (.int .i64 ((p.length : Int) - 4))) none).run Tryd.prog w = .ok (.slice s1a (p.length - 8) s1c) w := fun w => by rw [← e4]; exact hs1 w (p.length - 4) (by omega)
  have hs2' : ∀ w : World, (Instr.slice 32 (.slice (some ⟨pb, po, none⟩) p.length vc) (some (.int .i64 ((p.length : Int) - 4))) none none).run Tryd.prog w = .ok (.slice s2a 4 s2c) w := fun w => by rw [← e4]; exact hs2 w
  have hs3' : ∀ w : World, (Instr.slice 32 (.slice (some ⟨pb, po, none⟩) p.length vc) (some (.int .i64 5)) (some (.int .i64 ((p.length : Int) - 4))) none).run Tryd.prog w = .ok (.slice s3a (p.length - 9) s3c) w := fun w => by rw [← e4]; exact hs3 w (p.length - 4) (by omega)
  have hl1 : ((p.drop 4).take (p.length - 8)).length = p.length - 8 := by rw [List.length_take, List.length_drop]; omega
  have hl2 : (p.drop (p.length - 4)).length = 4 := by rw [List.length_drop]; omega
  have hl3 : ((p.drop 5).take (p.length - 9)).length = p.length - 9 := by rw [List.length_take, List.length_drop]; omega
  have hy1 : Byt ((p.drop 4).take (p.length - 8)) := (hy.drop 4).take _
  have hy2 : Byt (p.drop (p.length - 4)) := hy.drop _
  have CS : Hid (∀ wx : World, Below w.heap.size w wx → Calls Tryd.prog 64 #[.pointer (some ⟨g, 0, none⟩), .slice (some ⟨wx.heap.size, 0, none⟩) 1 1] (wx.alloc (.cells #[.slice s1a (p.length - 8) s1c] 32)) fun e w' => e = .returned (.int .u32 (sumN ((p.drop 4).take (p.length - 8)) : Nat)) ∧ wx.alloc (.cells #[.slice s1a (p.length - 8) s1c] 32) = w') := by
    show ∀ _, _
    intro wx hx
    exact tsum_one g wx ht hb1 hy1 (by omega) hx
  have CN : Hid (∀ wx : World, Below w.heap.size w wx → Calls Tryd.prog 66 #[.slice s2a 4 s2c] wx fun e w' => e = .returned (.int .u32 (numI (p.drop (p.length - 4)))) ∧ wx = w') := by
    show ∀ _, _
    intro wx hx
    exact numberOf_any _ _ wx (hb2.below hx) (by omega) hy2
  have CC : Hid (∀ wx : World, Below w.heap.size w wx → Calls Tryd.prog 44 #[.slice s3a (p.length - 9) s3c] wx fun e w' => ∃ v', e = .returned v' ∧ OwnB w' wx.heap.size v' ((p.drop 5).take (p.length - 9)) ∧ Below wx.heap.size wx w') := by
    show ∀ _, _
    intro wx hx
    exact clone_any _ _ wx (hb3.below hx) (by omega)
  have HD : Hid (decI p = if 1 ≤ p.getD 4 0 ∧ p.getD 4 0 ≤ 9 then if ((sumN ((p.drop 4).take (p.length - 8)) : Nat) : Int) = numI (p.drop (p.length - 4)) then (p.getD 4 0, (p.drop 5).take (p.length - 9), 0) else (0, [], 6) else (0, [], 1)) := rfl
  clear hb ht hy hb1 hb2 hb3 hs1 hs2 hs3 hl1 hl2 hl3 hy1 hy2 hc4
  have HL3 : Hid (((p.drop 5).take (p.length - 9)).length = p.length - 9) := by show _ = _; rw [List.length_take, List.length_drop]; omega
  generalize p.getD 4 0 = k at *
  generalize sumN ((p.drop 4).take (p.length - 8)) = S at *
  generalize numI (p.drop (p.length - 4)) = N at *
  generalize (p.drop 5).take (p.length - 9) = q at *
  generalize decI p = r at *
  go_enter Tryd.func47, Tryd.ntmps47
  go_wp2_with fail
  refine (isKind_any _ _).mono ?_; rintro e w' ⟨rfl, rfl⟩
  by_cases hk : 1 ≤ k ∧ k ≤ 9
  · have hdk : decide (1 ≤ k ∧ k ≤ 9) = true := by simpa using hk
    rw [hdk]
    rw [if_pos hk] at HD
    clear hdk
    go_upto_region 5 with fail
    refine wp_world fun wz hwz => ?_
    have hBz : Below w.heap.size w wz := by rw [hwz]; exact (Below.refl _ _).alloc (Nat.le_refl _) _
    have hkz : Blk wz w.heap.size 43 [.int .i64 0, .slice none 0 0] := by rw [hwz]; exact Blk.new w 43 [.int .i64 0, .slice none 0 0]
    have HBz := Lib.hid hBz
    have HKz := Lib.hid hkz
    have HS3 := Lib.hid hs3'
    clear hwz hc4' hBz hkz hs3'
    have hBd : Below w.heap.size w wz.drew := HBz.out.drew
    have cS : Calls Tryd.prog 64 #[.pointer (some ⟨g, 0, none⟩), .slice (some ⟨wz.heap.size, 0, none⟩) 1 1] (wz.alloc (.cells #[.slice s1a (p.length - 8) s1c] 32)).drew fun e w' => e = .returned (.int .u32 (S : Nat)) ∧ (wz.alloc (.cells #[.slice s1a (p.length - 8) s1c] 32)).drew = w' := CS.out wz.drew hBd
    have hBa : Below w.heap.size w (wz.alloc (.cells #[.slice s1a (p.length - 8) s1c] 32)).drew := (HBz.out.alloc HBz.out.size _).drew
    have cN := CN.out _ hBa
    have hka : Blk (wz.alloc (.cells #[.slice s1a (p.length - 8) s1c] 32)).drew w.heap.size 43 [.int .i64 0, .slice none 0 0] := (HKz.out.alloc _).drew
    have HCS := Lib.hid cS
    have HCN := Lib.hid cN
    have HBA := Lib.hid hBa
    have HKA := Lib.hid hka
    clear cS cN hBa hka hBd
    go_region_held_law (fun _ => True) (trivial) (first | (go_simp; go_at_call 64; refine HCS.out.mono ?_; rintro e w' ⟨rfl, rfl⟩) | (go_simp; go_at_call 66; refine HCN.out.mono ?_; rintro e w' ⟨rfl, rfl⟩))
    have hwy : ∃ wy, wy = (wz.alloc (.cells #[.slice s1a (p.length - 8) s1c] 32)).drew := ⟨_, rfl⟩
    obtain ⟨wy, hwy⟩ := hwy
    rw [← hwy] at HBA HKA ⊢
    clear hwy HCS HCN CS CN HBz HKz hs1' hs2'
    have c0 := HKA.out.cell (i := 0) rfl
    have c1 := HKA.out.cell (i := 1) rfl
    have f0 := HKA.out.frozen 0
    have f1 := HKA.out.frozen 1
    by_cases hsn : ((S : Nat) : Int) = N
    · rw [if_pos hsn] at HD
      subst hsn
      clear c0 c1 f0 f1
      have hs3' := HS3.out
      go_wp2_with fail
      refine (CC.out _ HBA.out).mono ?_; rintro e w2 ⟨v', rfl, ho2, hb2⟩
      obtain ⟨va2, vc2, hv2⟩ := ho2.slice
      rw [HL3.out] at hv2
      subst hv2
      have hk2 := Below.blk hb2 HKA.out.lt HKA.out
      have c0 := hk2.cell (i := 0) rfl
      have c1 := hk2.cell (i := 1) rfl
      have f0 := hk2.frozen 0
      have f1 := hk2.frozen 1
      have HO2 := Lib.hid ho2
      have HB2 := Lib.hid (HBA.out.trans (hb2.mono HBA.out.size))
      have HK2 := Lib.hid hk2
      clear ho2 hb2 hk2 hs3'
      go_wp2_with fail
      have hk3 := (HK2.out.set 0 (.int .i64 k)).set 1 (.slice va2 (p.length - 9) vc2)
      have d0 := hk3.cell (i := 0) (v := .int .i64 k) rfl
      have d1 := hk3.cell (i := 1) (v := .slice va2 (p.length - 9) vc2) rfl
      clear hk3 c0 c1 f0 f1
      exact bodyPost_ret (v := .tuple #[.agg #[.int .i64 k, .slice va2 (p.length - 9) vc2], .int .i64 0]) (by simp [results, Tryd.results47, go_sem, d0, d1]) rfl ⟨.slice va2 (p.length - 9) vc2, by rw [HD.out],
        by rw [HD.out]; exact ((HO2.out.set_other (a := ⟨w.heap.size, 0, none⟩) HKA.out.lt _).set_other (a := ⟨w.heap.size, 1, none⟩) HKA.out.lt _).mono HBA.out.size, (HB2.out.setCell (p := ⟨w.heap.size, 0, none⟩) (Nat.le_refl _) _).setCell (p := ⟨w.heap.size, 1, none⟩) (Nat.le_refl _) _⟩
    · rw [if_neg hsn] at HD
      have hneq : (((S : Nat) : Int) == N) = false := by simpa using hsn
      clear hsn
      go_wp2_with fail
      have hk3 := (HKA.out.set 0 (.int .i64 0)).set 1 (.slice none 0 0)
      have d0 := hk3.cell (i := 0) (v := .int .i64 0) rfl
      have d1 := hk3.cell (i := 1) (v := .slice none 0 0) rfl
      clear hk3 c0 c1 f0 f1
      exact bodyPost_ret (v := .tuple #[.agg #[.int .i64 0, .slice none 0 0], .int .i64 6]) (by simp [results, Tryd.results47, go_sem, d0, d1]) rfl ⟨.slice none 0 0, by rw [HD.out], by rw [HD.out]; exact World.ownsRow_nil _ _ _ _,
        (HBA.out.setCell (p := ⟨w.heap.size, 0, none⟩) (Nat.le_refl _) _).setCell (p := ⟨w.heap.size, 1, none⟩) (Nat.le_refl _) _⟩
  · have hdk : decide (1 ≤ k ∧ k ≤ 9) = false := by simpa using hk
    rw [hdk]
    rw [if_neg hk] at HD
    clear hdk
    go_wp2_with fail
    exact bodyPost_ret (v := .tuple #[.agg #[.int .i64 0, .slice none 0 0], .int .i64 1]) (by simp [results, Tryd.results47, go_sem]) rfl ⟨_, by rw [HD.out], by rw [HD.out]; exact World.ownsRow_nil _ _ _ _, (Below.refl _ _).alloc (Nat.le_refl _) _⟩
end Go.Proofs.YtpfbiijcmmkjlaaDoor.Fr
