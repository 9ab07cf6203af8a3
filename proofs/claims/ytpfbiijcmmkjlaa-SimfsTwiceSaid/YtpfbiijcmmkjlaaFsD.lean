/- Package simfs: changes of the directory are made, kept and done. -/
import Derived.Test.YtpfbiijcmmkjlaaFsN
import Derived.Test.YtpfbiijcmmkjlaaTail
import Derived.Test.YtpfbiijcmmkjlaaQuiet
namespace Go.Proofs.Ytpfbiijcmmkjlaa
open Go.RowKit Go.Maps Go.WideMaps

set_option maxHeartbeats 400000 in
theorem clone_any (s : ByteArray) (w : World) (hs : s.size ≤ 1000) :
    Calls Try.prog 65 #[.string s] w fun e w' => e = .returned (.string s) ∧ Below w.heap.size w w' := by
  have h := fun W => Try.stringslite_Clone s W (by omega)
  go_enter Try.func65, Try.ntmps65
  go_wp2_with fail
  refine (h _).mono ?_; rintro e w1 ⟨rfl, hb⟩
  go_wp2_with fail
  go_ret
  exact ⟨rfl, hb⟩

theorem bcell {W w1 : World} (hb : Below W.heap.size W w1) : (∀ b o, b < W.heap.size → w1.cell? ⟨b, o, none⟩ = W.cell? ⟨b, o, none⟩) ∧ (∀ b o, b < W.heap.size → w1.frozen? ⟨b, o, none⟩ = W.frozen? ⟨b, o, none⟩) :=
  ⟨fun b o h => hb.cell (p := ⟨b, o, none⟩) h, fun b o h => hb.frozen (p := ⟨b, o, none⟩) h⟩
/-- The blocks that are new. -/
def newB (w w' : World) : Nat → Prop := fun k => w.heap.size ≤ k ∧ k < w'.heap.size
set_option maxHeartbeats 1000000 in
theorem creation_any (n : ByteArray) (b : Nat) (w : World) (hs : n.size ≤ 20) :
    Calls Try.prog 44 #[.string n, .pointer (some ⟨b, 0, none⟩)] w fun e w' => ∃ v, e = .returned v ∧ Clo w' (newB w w') v (.create n b) ∧ Below w.heap.size w w' := by
  have hcl := fun W => clone_any n W (by omega)
  go_enter Try.func44, Try.ntmps44
  go_upto_region 1 with (fail)
  refine wp_world fun w1 hw1 => ?_
  have hn1 : Blk w1 w.heap.size 9 [.string n] := by rw [hw1]; exact (Blk.new w _ [.string n]).alloc _
  have hx1 : Blk w1 (w.heap.size + 1) 77 [.pointer (some ⟨b, 0, none⟩)] := by rw [hw1]; have := Blk.new (w.alloc (.cells #[.string n] 9)) 77 [.pointer (some ⟨b, 0, none⟩)]; rw [World.size_alloc] at this; exact this
  have hB1 : Below w.heap.size w w1 := by rw [hw1]; exact ((Below.refl _ _).alloc (Nat.le_refl _) _).alloc (by simp) _
  clear hw1
  have c1 := hn1.cell (i := 0) rfl
  have HN := Lib.hid hn1
  have HX := Lib.hid hx1
  have HB := Lib.hid hB1
  have HC := Lib.hid hcl
  clear hn1 hx1 hB1 hcl
  go_wp2_with fail
  refine (HC.out _).mono ?_; rintro e w2 ⟨rfl, hb2⟩
  have hn2 := Below.blk hb2 HN.out.lt HN.out
  have hx2 := Below.blk hb2 HX.out.lt HX.out
  have hB2 := HB.out.trans (hb2.mono HB.out.size)
  have c2 := hn2.cell (i := 0) rfl
  have f2 := hn2.frozen 0
  have HN2 := Lib.hid (hn2.set 0 (.string n))
  have HX2 := Lib.hid (hx2.set_other (a := ⟨w.heap.size, 0, none⟩) (by simp) (.string n))
  have HB2 := Lib.hid (hB2.setCell (p := ⟨w.heap.size, 0, none⟩) (Nat.le_refl _) (.string n))
  clear hn2 hx2 hB2 hb2 c1
  go_wp2_with fail
  go_ret
  exact ⟨_, rfl, ⟨_, _, rfl, HX2.out, HN2.out, ⟨by omega, HX2.out.lt⟩, ⟨by omega, HN2.out.lt⟩, hs⟩, HB2.out⟩
set_option maxHeartbeats 1000000 in
theorem removal_any (n : ByteArray) (w : World) (hs : n.size ≤ 20) :
    Calls Try.prog 54 #[.string n] w fun e w' => ∃ v, e = .returned v ∧ Clo w' (newB w w') v (.remove n) ∧ Below w.heap.size w w' := by
  have hcl := fun W => clone_any n W (by omega)
  go_enter Try.func54, Try.ntmps54
  go_upto_region 1 with (fail)
  refine wp_world fun w1 hw1 => ?_
  have hn1 : Blk w1 w.heap.size 9 [.string n] := by rw [hw1]; exact Blk.new w _ [.string n]
  have hB1 : Below w.heap.size w w1 := by rw [hw1]; exact (Below.refl _ _).alloc (Nat.le_refl _) _
  clear hw1
  have c1 := hn1.cell (i := 0) rfl
  have HN := Lib.hid hn1
  have HB := Lib.hid hB1
  have HC := Lib.hid hcl
  clear hn1 hB1 hcl
  go_wp2_with fail
  refine (HC.out _).mono ?_; rintro e w2 ⟨rfl, hb2⟩
  have hn2 := Below.blk hb2 HN.out.lt HN.out
  have hB2 := HB.out.trans (hb2.mono HB.out.size)
  have c2 := hn2.cell (i := 0) rfl
  have f2 := hn2.frozen 0
  have HN2 := Lib.hid (hn2.set 0 (.string n))
  have HB2 := Lib.hid (hB2.setCell (p := ⟨w.heap.size, 0, none⟩) (Nat.le_refl _) (.string n))
  clear hn2 hB2 hb2 c1
  go_wp2_with fail
  go_ret
  exact ⟨_, rfl, ⟨_, rfl, HN2.out, ⟨by omega, HN2.out.lt⟩, hs⟩, HB2.out⟩
set_option maxHeartbeats 1000000 in
theorem renaming_any (n m : ByteArray) (w : World) (hs : n.size ≤ 20) (hm : m.size ≤ 20) :
    Calls Try.prog 53 #[.string n, .string m] w fun e w' => ∃ v, e = .returned v ∧ Clo w' (newB w w') v (.rename n m) ∧ Below w.heap.size w w' := by
  have hcl := fun W => clone_any n W (by omega)
  have hcm := fun W => clone_any m W (by omega)
  go_enter Try.func53, Try.ntmps53
  go_upto_region 1 with (fail)
  refine wp_world fun w1 hw1 => ?_
  have hn1 : Blk w1 w.heap.size 9 [.string n] := by rw [hw1]; exact (Blk.new w _ [.string n]).alloc _
  have hx1 : Blk w1 (w.heap.size + 1) 9 [.string m] := by rw [hw1]; have := Blk.new (w.alloc (.cells #[.string n] 9)) 9 [.string m]; rw [World.size_alloc] at this; exact this
  have hB1 : Below w.heap.size w w1 := by rw [hw1]; exact ((Below.refl _ _).alloc (Nat.le_refl _) _).alloc (by simp) _
  clear hw1
  have c1 := hn1.cell (i := 0) rfl
  have c2 := hx1.cell (i := 0) rfl
  have HN := Lib.hid hn1
  have HX := Lib.hid hx1
  have HB := Lib.hid hB1
  have HC := Lib.hid hcl
  have HCM := Lib.hid hcm
  clear hn1 hx1 hB1 hcl hcm
  go_wp2_with fail
  have f1 := HN.out.frozen 0
  have f2 := HX.out.frozen 0
  have hl1 := HN.out.lt
  have hl2 := HX.out.lt
  have k1 : ∀ W, Below w1.heap.size w1 W → W.cell? ⟨w.heap.size, 0, none⟩ = some (.string n) := fun W hb => (hb.cell (p := ⟨w.heap.size, 0, none⟩) hl1).trans c1
  have k2 : ∀ W, Below w1.heap.size w1 W → W.cell? ⟨w.heap.size + 1, 0, none⟩ = some (.string m) := fun W hb => (hb.cell (p := ⟨w.heap.size + 1, 0, none⟩) hl2).trans c2
  refine wp_region_quiet_tail_in (fun W => Below w1.heap.size w1 W) 4 (by kernel_rfl) (by kernel_rfl) ⟨rfl, rfl, rfl, Nat.le_refl _, fun _ _ => rfl⟩ ?_
  simp only [List.take_succ_cons, List.take_zero, List.drop_succ_cons, List.drop_zero]
  refine wpQuiet_run (.string n) rfl (fun w' hb => by have := k1 w' hb; go_simp) ?_
  refine wpQuiet_step (fun K hK => ?_); go_simp; refine ⟨.string n, fun w' hb => (HC.out w').mono fun e w'' ⟨he, hb'⟩ => ⟨he, hb.trans (hb'.mono hb.size)⟩, hK _ ?_⟩; clear hK K
  refine wpQuiet_run (.string m) rfl (fun w' hb => by have := k2 w' hb; go_simp) ?_
  refine wpQuiet_step (fun K hK => ?_); go_simp; refine ⟨.string m, fun w' hb => (HCM.out w').mono fun e w'' ⟨he, hb'⟩ => ⟨he, hb.trans (hb'.mono hb.size)⟩, hK _ ?_⟩; clear hK K
  refine wpQuiet_nil ?_
  intro w2 hb2
  have hn2 := Below.blk hb2 hl1 HN.out
  have hx2 := Below.blk hb2 hl2 HX.out
  have hB2 := HB.out.trans (hb2.mono HB.out.size)
  have c3 := hn2.cell (i := 0) rfl
  have c4 := hx2.cell (i := 0) rfl
  have f3 := hn2.frozen 0
  have f4 := hx2.frozen 0
  have HN2 := Lib.hid ((hn2.set 0 (.string n)).set_other (a := ⟨w.heap.size + 1, 0, none⟩) (by simp) (.string m))
  have HX2 := Lib.hid ((hx2.set_other (a := ⟨w.heap.size, 0, none⟩) (by simp) (.string n)).set 0 (.string m))
  have HB2 := Lib.hid ((hB2.setCell (p := ⟨w.heap.size, 0, none⟩) (Nat.le_refl _) (.string n)).setCell (p := ⟨w.heap.size + 1, 0, none⟩) (by simp) (.string m))
  clear hn2 hx2 hB2 hb2 c1 c2 f1 f2 k1 k2
  go_wp2
  go_simp
  go_ret
  exact ⟨_, rfl, ⟨_, _, rfl, HN2.out, HX2.out, ⟨by omega, HN2.out.lt⟩, ⟨by omega, HX2.out.lt⟩, hs, hm⟩, HB2.out⟩
end Go.Proofs.Ytpfbiijcmmkjlaa
