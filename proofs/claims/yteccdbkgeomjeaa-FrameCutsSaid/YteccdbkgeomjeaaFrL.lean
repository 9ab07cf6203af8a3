/- 'Encode' of parts that were laid just before; texts that differ. -/
import Derived.Test.YteccdbkgeomjeaaFrK
namespace Go.Proofs.Yteccdbkgeomjeaa
open Go.RowKit

theorem str_ne {a b : List Int} (ha : Byt a) (hb : Byt b) (h : a ≠ b) : ((strOfNums a).toList == (strOfNums b).toList) = false := by
  rw [beq_eq_false_iff_ne]
  intro e
  rw [ByteArray.toList_eq, ByteArray.toList_eq] at e
  apply h
  apply strOfNums_inj ha hb
  apply ByteArray.ext
  exact Array.toList_inj.1 e
/-- Two frames differ, if their kinds or payloads do. -/
theorem frame_ne {k k' : Int} {p q : List Int} (h0 : 1 ≤ k) (h1 : k ≤ 9) (h2 : 1 ≤ k') (h3 : k' ≤ 9) (hp : Byt p) (hq : Byt q) (lp : p.length ≤ 8192) (lq : q.length ≤ 8192) (h : k ≠ k' ∨ p ≠ q) : frameI k p ≠ frameI k' q := by
  intro e
  have a := decodeI_frame h0 h1 hp lp
  have b := decodeI_frame h2 h3 hq lq
  rw [e, b] at a
  injection a with a1 a2
  injection a2 with a2 a3
  rcases h with h | h
  · exact h a1.symm
  · exact h a2.symm
theorem enc_one (k : Int) {v : Value} {p : List Int} {w0 : World} (wx : World) (h0 : 1 ≤ k) (h1 : k ≤ 9) (hb : BytesE w0 v p) (hy : Byt p) (hl : p.length ≤ 8192) (hbw : Below w0.heap.size w0 wx) :
    Calls Try.prog 14 #[.int .i64 k, .slice (some ⟨wx.heap.size, 0, none⟩) 1 1] (wx.alloc (.cells #[v] 30)) fun e w' => ∃ v', e = .returned (.tuple #[v', .int .i64 0]) ∧ OwnB w' wx.heap.size v' (frameI k p) ∧ Below wx.heap.size wx w' := by
  have hk : Blk (wx.alloc (.cells #[v] 30)) wx.heap.size 30 [v] := Blk.new wx 30 [v]
  have hB : Below wx.heap.size wx (wx.alloc (.cells #[v] 30)) := (Below.refl _ _).alloc (Nat.le_refl _) _
  have hB0 : Below w0.heap.size w0 (wx.alloc (.cells #[v] 30)) := hbw.trans (hB.mono hbw.size)
  have := encode_any k (.slice (some ⟨wx.heap.size, 0, none⟩) 1 1) [p] (wx.alloc (.cells #[v] 30)) h0 h1 (.inr ⟨wx.heap.size, 0, 1, rfl, hk.lt, fun i hi => by
    have : i = 0 := by simpa using hi
    subst this
    exact ⟨_, hk.cell rfl, hb.below hB0⟩⟩) (by simp) (fun i hi => by
    have : i = 0 := by simpa using hi
    subst this
    exact ⟨by show p.length < _; omega, hy⟩) (by simpa using hl)
  rw [show [p].flatten = p by simp] at this
  exact this.mono fun e w' ⟨v', he, ho, hb'⟩ => ⟨v', he, ho.mono hB.size, hB.trans (hb'.mono hB.size)⟩
theorem enc_three (k : Int) {v1 v2 v3 : Value} {p1 p2 p3 : List Int} {w0 : World} (wx : World) (h0 : 1 ≤ k) (h1 : k ≤ 9) (hb1 : BytesE w0 v1 p1) (hb2 : BytesE w0 v2 p2) (hb3 : BytesE w0 v3 p3) (hy1 : Byt p1) (hy2 : Byt p2) (hy3 : Byt p3) (hl : p1.length + p2.length + p3.length ≤ 8192) (hbw : Below w0.heap.size w0 wx) :
    Calls Try.prog 14 #[.int .i64 k, .slice (some ⟨wx.heap.size, 0, none⟩) 3 3] (wx.alloc (.cells #[v1, v2, v3] 30)) fun e w' => ∃ v', e = .returned (.tuple #[v', .int .i64 0]) ∧ OwnB w' wx.heap.size v' (frameI k (p1 ++ p2 ++ p3)) ∧ Below wx.heap.size wx w' := by
  have hk : Blk (wx.alloc (.cells #[v1, v2, v3] 30)) wx.heap.size 30 [v1, v2, v3] := Blk.new wx 30 [v1, v2, v3]
  have hB : Below wx.heap.size wx (wx.alloc (.cells #[v1, v2, v3] 30)) := (Below.refl _ _).alloc (Nat.le_refl _) _
  have hB0 : Below w0.heap.size w0 (wx.alloc (.cells #[v1, v2, v3] 30)) := hbw.trans (hB.mono hbw.size)
  have three : ∀ i, i < 3 → i = 0 ∨ i = 1 ∨ i = 2 := by omega
  have := encode_any k (.slice (some ⟨wx.heap.size, 0, none⟩) 3 3) [p1, p2, p3] (wx.alloc (.cells #[v1, v2, v3] 30)) h0 h1 (.inr ⟨wx.heap.size, 0, 3, rfl, hk.lt, fun i hi => by
    rcases three i hi with rfl | rfl | rfl
    · exact ⟨_, hk.cell (i := 0) rfl, hb1.below hB0⟩
    · exact ⟨_, hk.cell (i := 1) rfl, hb2.below hB0⟩
    · exact ⟨_, hk.cell (i := 2) rfl, hb3.below hB0⟩⟩) (by simp) (fun i hi => by
    rcases three i hi with rfl | rfl | rfl
    · exact ⟨by show p1.length < _; omega, hy1⟩
    · exact ⟨by show p2.length < _; omega, hy2⟩
    · exact ⟨by show p3.length < _; omega, hy3⟩) (by simp; omega)
  rw [show [p1, p2, p3].flatten = p1 ++ p2 ++ p3 by simp] at this
  exact this.mono fun e w' ⟨v', he, ho, hb'⟩ => ⟨v', he, ho.mono hB.size, hB.trans (hb'.mono hB.size)⟩
/-- A number turned into a kind. -/
theorem kind_of (x : Int) : ∃ q : Int, IntKind.u64.wrap x % 9 = q ∧ 0 ≤ q ∧ q < 9 := ⟨_, rfl, Int.emod_nonneg _ (by omega), Int.emod_lt_of_pos _ (by omega)⟩
theorem u64_nonneg (x : Int) : 0 ≤ IntKind.u64.wrap x := by rw [IntKind.wrap_u64]; omega
theorem two_of : ∀ zs : List Int, zs.length = 2 → ∃ x y, zs = [x, y]
  | [x, y], _ => ⟨x, y, rfl⟩
end Go.Proofs.Yteccdbkgeomjeaa
