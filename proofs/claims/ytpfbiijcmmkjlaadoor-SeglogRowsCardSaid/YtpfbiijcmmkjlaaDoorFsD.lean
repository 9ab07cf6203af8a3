/- Package simfs: changes of the directory are made, kept and done. -/
import Derived.Test.YtpfbiijcmmkjlaaDoorFsN
import Derived.Test.YtpfbiijcmmkjlaaDoorTail
import Derived.Test.YtpfbiijcmmkjlaaDoorQuiet
namespace Go.Proofs.YtpfbiijcmmkjlaaDoor
open Go.RowKit Go.Maps Go.WideMaps
set_option maxRecDepth 100000

set_option maxHeartbeats 400000 in
theorem clone_any (s : ByteArray) (w : World) (hs : s.size ≤ 1000) :
    Calls Tryd.prog 61 #[.string s] w fun e w' => e = .returned (.string s) ∧ Below w.heap.size w w' := by
  have h := fun W => Tryd.stringslite_Clone s W (by omega)
  go_enter Tryd.func61, Tryd.ntmps61
  go_wp2_with fail
  refine (h _).mono ?_; rintro e w1 ⟨rfl, hb⟩
  go_wp2_with fail
  go_ret
  exact ⟨rfl, hb⟩

theorem bcell {W w1 : World} (hb : Below W.heap.size W w1) : (∀ b o, b < W.heap.size → w1.cell? ⟨b, o, none⟩ = W.cell? ⟨b, o, none⟩) ∧ (∀ b o, b < W.heap.size → w1.frozen? ⟨b, o, none⟩ = W.frozen? ⟨b, o, none⟩) :=
  ⟨fun b o h => hb.cell (p := ⟨b, o, none⟩) h, fun b o h => hb.frozen (p := ⟨b, o, none⟩) h⟩
/-- The blocks that are new. -/
def newB (w w' : World) : Nat → Prop := fun k => w.heap.size ≤ k ∧ k < w'.heap.size
set_option maxHeartbeats 1000000 in
theorem creation_any (n : ByteArray) (b : Nat) (w : World) (hs : n.size ≤ 20) :
    Calls Tryd.prog 38 #[.string n, .pointer (some ⟨b, 0, none⟩)] w fun e w' => ∃ v, e = .returned v ∧ Clo w' (newB w w') v (.create n b) ∧ Below w.heap.size w w' := by
  have hcl := fun W => clone_any n W (by omega)
  go_enter Tryd.func38, Tryd.ntmps38
  go_upto_region 1 with (fail)
  refine wp_world fun w1 hw1 => ?_
  have hn1 : Blk w1 w.heap.size 9 [.string n] := by rw [hw1]; exact (Blk.new w _ [.string n]).alloc _
  have hx1 : Blk w1 (w.heap.size + 1) 76 [.pointer (some ⟨b, 0, none⟩)] := by rw [hw1]; have := Blk.new (w.alloc (.cells #[.string n] 9)) 76 [.pointer (some ⟨b, 0, none⟩)]; rw [World.size_alloc] at this; exact this
  have hB1 : Below w.heap.size w w1 := by rw [hw1]; exact ((Below.refl _ _).alloc (Nat.le_refl _) _).alloc (by simp) _
  clear hw1
  have c1 := hn1.cell (i := 0) rfl
  have HN := Lib.hid hn1
  have HX := Lib.hid hx1
  have HB := Lib.hid hB1
  have HC := Lib.hid hcl
  clear hn1 hx1 hB1 hcl
  go_wp2_with fail
  refine (HC.out _).mono ?_; rintro e w2 ⟨rfl, hb2⟩
  have hn2 := Below.blk hb2 HN.out.lt HN.out
  have hx2 := Below.blk hb2 HX.out.lt HX.out
  have hB2 := HB.out.trans (hb2.mono HB.out.size)
  have c2 := hn2.cell (i := 0) rfl
  have f2 := hn2.frozen 0
  have HN2 := Lib.hid (hn2.set 0 (.string n))
  have HX2 := Lib.hid (hx2.set_other (a := ⟨w.heap.size, 0, none⟩) (by simp) (.string n))
  have HB2 := Lib.hid (hB2.setCell (p := ⟨w.heap.size, 0, none⟩) (Nat.le_refl _) (.string n))
  clear hn2 hx2 hB2 hb2 c1
  go_wp2_with fail
  go_ret
  exact ⟨_, rfl, ⟨_, _, rfl, HX2.out, HN2.out, ⟨by omega, HX2.out.lt⟩, ⟨by omega, HN2.out.lt⟩, hs⟩, HB2.out⟩
end Go.Proofs.YtpfbiijcmmkjlaaDoor
