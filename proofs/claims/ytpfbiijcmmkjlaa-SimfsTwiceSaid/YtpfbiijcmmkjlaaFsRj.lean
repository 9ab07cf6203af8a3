/- The reference of layer 2 (rubricref02): 'set' by what it makes of a file system. -/
import Derived.Test.YtpfbiijcmmkjlaaFsRi
namespace Go.Proofs.Ytpfbiijcmmkjlaa
open Go.RowKit

/-- With one file as told. -/
def setR (R : RSt) (i : Nat) (x : RN) : RSt := { R with files := R.files.set i x }
set_option maxRecDepth 100000 in
set_option maxHeartbeats 2000000 in
theorem refSet_any {P : Nat → Prop} (v : Value) (R : RSt) (i : Nat) (x : RN) (w : World) (h : RFs P w v R) (hk : ROk R) (hi : i < R.files.length) :
    Calls Try.prog 52 #[v, .int .i64 i, .agg #[.string x.1, .int .i64 x.2]] w fun e w' => ∃ v', e = .returned v' ∧ RFs (fun k => P k ∨ w.heap.size ≤ k) w' v' (setR R i x) ∧ Below w.heap.size w w' := by
  obtain ⟨fa, fc, da, dc, sa, sc, ca, cc, pa, pc, cvs, rfl, h1, h2, h3, h4, h5, h6, o1, o2, o3, o4, o5⟩ := h.parts
  obtain ⟨xs, xf⟩ := x
  have HF := Lib.hid h1
  have HFL := Lib.hid hk.files
  have li : (i : Int) < R.files.length := by omega
  have HLT := Lib.hid hi
  -- the rest of it, in later worlds
  have HREST : Hid (∀ (W : World) (fv : Value), Below w.heap.size w W → RNames W fv (R.files.set i (xs, xf)) → OwnIn (fun k => w.heap.size ≤ k) fv →
      RFs (fun k => (P k ∧ k < w.heap.size) ∨ (w.heap.size ≤ k ∧ fv.ownBlock = some k)) W (.agg #[.int .i64 R.room, fv, .slice da R.dir.length dc, .slice sa R.sure.length sc, .slice ca R.changes.length cc, .int .i64 R.steps, .int .i64 R.left, .slice pa R.plan.length pc]) (setR R i (xs, xf))) := fun W fv hb hf ho =>
    RFs.mk (R := setR R i (xs, xf)) hf (h2.below hb) (h3.below hb) (h4.below hb) ⟨h5.1, fun j c hc => by obtain ⟨u, e1, e2, e3⟩ := h5.2 j c hc; exact ⟨u, e1, e2.below hb, fun k hk => .inl ⟨e3 k hk, e2.block k hk⟩⟩⟩ (h6.below hb)
      (fun k hk => .inr ⟨ho k hk, hk⟩) (fun k hk => .inl ⟨o2 k hk, h2.block k hk⟩) (fun k hk => .inl ⟨o3 k hk, h3.block k hk⟩) (fun k hk => .inl ⟨o4 k hk, h4.block k hk⟩) (fun k hk => .inl ⟨o5 k hk, h6.block k hk⟩)
  clear h1 h2 h3 h4 h5 h6 h hk o1 o2 o3 o4 o5 hi
  go_enter Try.func52, Try.ntmps52
  go_upto_region 1 with fail
  refine wp_world fun wB hwB => ?_
  have hBB : Below w.heap.size w wB := by rw [hwB]; exact (((Below.refl _ _).alloc (Nat.le_refl _) _).alloc (by simp) _).alloc (by simp; omega) _
  have hK0 : Blk wB w.heap.size 33 [.int .i64 R.room, .slice fa R.files.length fc, .slice da R.dir.length dc, .slice sa R.sure.length sc, .slice ca R.changes.length cc, .int .i64 R.steps, .int .i64 R.left, .slice pa R.plan.length pc] := by rw [hwB]; exact ((Blk.new w 33 [.int .i64 R.room, .slice fa R.files.length fc, .slice da R.dir.length dc, .slice sa R.sure.length sc, .slice ca R.changes.length cc, .int .i64 R.steps, .int .i64 R.left, .slice pa R.plan.length pc]).alloc _).alloc _
  have hKX : Blk wB (w.heap.size + 1) 75 [.string xs, .int .i64 xf] := by
    rw [hwB]
    have := (Blk.new (w.alloc (.cells #[.int .i64 R.room, .slice fa R.files.length fc, .slice da R.dir.length dc, .slice sa R.sure.length sc, .slice ca R.changes.length cc, .int .i64 R.steps, .int .i64 R.left, .slice pa R.plan.length pc] 33)) 75 [.string xs, .int .i64 xf]).alloc (.cells zeroC.toArray 33)
    rw [World.size_alloc] at this
    exact this
  have hK1 : Blk wB (w.heap.size + 2) 33 zeroC := by
    rw [hwB]
    have := Blk.new ((w.alloc (.cells #[.int .i64 R.room, .slice fa R.files.length fc, .slice da R.dir.length dc, .slice sa R.sure.length sc, .slice ca R.changes.length cc, .int .i64 R.steps, .int .i64 R.left, .slice pa R.plan.length pc] 33)).alloc (.cells #[.string xs, .int .i64 xf] 75)) 33 zeroC
    rw [World.size_alloc, World.size_alloc] at this
    exact this
  have c1 : ∀ A, (wB.alloc A).cell? ⟨w.heap.size, 1, none⟩ = some (.slice fa R.files.length fc) := fun A => (hK0.alloc A).cell rfl
  have HBB := Lib.hid hBB
  have HK0 := Lib.hid hK0
  have HKX := Lib.hid hKX
  have HK1 := Lib.hid hK1
  have HOE := Lib.hid (OwnRF.empty wB)
  clear hwB hBB hK0 hKX hK1
  go_wp2_with (with_reducible refine wpList_append_rf rfl (.tmp 7) (.tmp 9) rfl wB.heap.size (.slice (some ⟨wB.heap.size, 0, none⟩) 0 0) (.slice fa R.files.length fc) [] R.files ?_ HOE.out ?_ HF.out ?_ ?_ ?_ ?_)
  case refine_1 => rfl
  case refine_2 => rfl
  case refine_3 => exact (HBB.out).alloc HBB.out.size _
  case refine_4 => have := HFL.out; simp; omega
  case refine_5 => simp
  intro v3 w3 ho3 hg3
  try rw [List.nil_append] at ho3
  obtain ⟨a3, q3, rfl⟩ := ho3.slice
  have hb3 : Below wB.heap.size wB w3 := ((Below.refl _ _).alloc (Nat.le_refl _) _).grown hg3 (by simp) fun j hj => by cases hj; exact Nat.le_refl _
  have hk0 := (show Blk w3 w.heap.size 33 [.int .i64 R.room, .slice fa R.files.length fc, .slice da R.dir.length dc, .slice sa R.sure.length sc, .slice ca R.changes.length cc, .int .i64 R.steps, .int .i64 R.left, .slice pa R.plan.length pc] from (hb3.block _ HK0.out.lt).trans HK0.out)
  have hkx := (show Blk w3 (w.heap.size + 1) 75 [.string xs, .int .i64 xf] from (hb3.block _ HKX.out.lt).trans HKX.out)
  have hk1 := (show Blk w3 (w.heap.size + 2) 33 zeroC from (hb3.block _ HK1.out.lt).trans HK1.out)
  have HB3 := Lib.hid (HBB.out.trans (hb3.mono HBB.out.size))
  have HO3 := Lib.hid ho3
  have hbs : w.heap.size + 3 ≤ wB.heap.size := by have := HK1.out.lt; omega
  have HBS := Lib.hid hbs
  have f1 := hk0.frozen 1
  have d1 := hk0.cell (i := 1) rfl
  have HKA := Lib.hid (hk0.set 1 (.slice a3 R.files.length q3))
  have HKB := Lib.hid (hkx.set_other (a := ⟨w.heap.size, 1, none⟩) (by simp) (.slice a3 R.files.length q3))
  have HKC := Lib.hid (hk1.set_other (a := ⟨w.heap.size, 1, none⟩) (by simp) (.slice a3 R.files.length q3))
  clear hg3 hb3 hk0 hkx hk1 ho3 c1 hbs HK0 HKX HK1 HOE HBB
  go_upto_region 2 with fail
  refine wp_world fun w4 hw4 => ?_
  have hk0 : Blk w4 w.heap.size 33 [.int .i64 R.room, .slice a3 R.files.length q3, .slice da R.dir.length dc, .slice sa R.sure.length sc, .slice ca R.changes.length cc, .int .i64 R.steps, .int .i64 R.left, .slice pa R.plan.length pc] := by rw [hw4]; exact HKA.out
  have hkx : Blk w4 (w.heap.size + 1) 75 [.string xs, .int .i64 xf] := by rw [hw4]; exact HKB.out
  have hk1 : Blk w4 (w.heap.size + 2) 33 zeroC := by rw [hw4]; exact HKC.out
  have hB4 : Below w.heap.size w w4 := by rw [hw4]; exact HB3.out.setCell (Nat.le_refl _) _
  have hO4 : OwnRF wB.heap.size w4 (.slice a3 R.files.length q3) R.files := by
    rw [hw4]; refine ownsRow_to HO3.out fun k cur _ hk => heap_setCell_other w3 _ k _ (show k ≠ w.heap.size by have := HO3.out.own k hk; have := HBS.out; omega)
  clear hw4 HKA HKB HKC HB3 HO3 f1 d1
  have HB4 := Lib.hid hB4
  have HO4 := Lib.hid hO4
  have HK0 := Lib.hid hk0
  have HKX := Lib.hid hkx
  have HK1 := Lib.hid hk1
  have b1 := hk0.cell (i := 1) rfl
  have e0 := hkx.cell (i := 0) rfl
  have e1 := hkx.cell (i := 1) rfl
  cases a3 with
  | none =>
    rcases HO4.out.2 with ⟨h0, h1⟩ | ⟨_, _, _, h0, _⟩
    · have := HLT.out; omega
    · cases h0
  | some ga =>
    obtain ⟨gb, go, gs⟩ := ga
    obtain ⟨g1, g2, g3, g4, ⟨ca0, cb0, g5, g6⟩, g7⟩ := HO4.out.cell i HLT.out
    simp only at g1 g2 g3 g4 g5 g6 g7
    subst g1 g2
    have gf0 := g7 (i * 2)
    have gf1 := g7 (i * 2 + 1)
    have HS := Lib.hid (HO4.out.set i (xs, xf))
    have HG := Lib.hid g3
    clear hk0 hkx hk1 hB4 hO4 g3 g4 g7
    go_upto_region 3 with fail
    refine wp_world fun w5 hw5 => ?_
    have hO5 : OwnRF wB.heap.size w5 (.slice (some ⟨gb, 0, none⟩) R.files.length q3) (R.files.set i (xs, xf)) := by rw [hw5]; exact HS.out
    have hgw : gb ≠ w.heap.size ∧ gb ≠ w.heap.size + 2 := by have := HG.out; have := HBS.out; omega
    have hk0 : Blk w5 w.heap.size 33 [.int .i64 R.room, .slice (some ⟨gb, 0, none⟩) R.files.length q3, .slice da R.dir.length dc, .slice sa R.sure.length sc, .slice ca R.changes.length cc, .int .i64 R.steps, .int .i64 R.left, .slice pa R.plan.length pc] := by rw [hw5]; exact (HK0.out.set_other (a := ⟨gb, i * 2, none⟩) (show w.heap.size ≠ gb by omega) _).set_other (a := ⟨gb, i * 2 + 1, none⟩) (show w.heap.size ≠ gb by omega) _
    have hk1 : Blk w5 (w.heap.size + 2) 33 zeroC := by rw [hw5]; exact (HK1.out.set_other (a := ⟨gb, i * 2, none⟩) (show w.heap.size + 2 ≠ gb by omega) _).set_other (a := ⟨gb, i * 2 + 1, none⟩) (show w.heap.size + 2 ≠ gb by omega) _
    have hB5 : Below w.heap.size w w5 := by rw [hw5]; exact (HB4.out.setCell (p := ⟨gb, i * 2, none⟩) (show w.heap.size ≤ gb by have := HG.out; have := HBS.out; omega) _).setCell (p := ⟨gb, i * 2 + 1, none⟩) (show w.heap.size ≤ gb by have := HG.out; have := HBS.out; omega) _
    have HR5 := Lib.hid (HREST.out w5 (.slice (some ⟨gb, 0, none⟩) R.files.length q3) hB5 (by have h9 := hO5.names; first | exact h9 | (rwa [List.length_set] at h9)) (fun k hk => by cases hk; show w.heap.size ≤ gb; have := HG.out; have := HBS.out; omega))
    have HB5 := Lib.hid hB5
    have HGW := Lib.hid hgw
    clear hw5 HS HG HK0 HK1 HKX HB4 HO4 hO5 gf0 gf1 b1 e0 e1 g5 g6 hB5 hgw
    obtain ⟨x0, x1, x2, x3, x4, x5, x6, x7, y0, y1, y2, y3, y4, y5, y6, y7⟩ := hk0.fs
    obtain ⟨p0, p1, p2, p3, p4, p5, p6, p7, z0, z1, z2, z3, z4, z5, z6, z7⟩ := (show Blk _ (w.heap.size + 2) 33 [.int .i64 0, .slice none 0 0, .slice none 0 0, .slice none 0 0, .slice none 0 0, .int .i64 0, .int .i64 0, .slice none 0 0] from hk1).fs
    have HK1 := Lib.hid hk1
    clear hk0 hk1
    go_wp2_with fail
    have hkF := putFS_blk HK1.out (.int .i64 R.room) (.slice (some ⟨gb, 0, none⟩) R.files.length q3) (.slice da R.dir.length dc) (.slice sa R.sure.length sc) (.slice ca R.changes.length cc) (.int .i64 R.steps) (.int .i64 R.left) (.slice pa R.plan.length pc)
    obtain ⟨d0, d1, d2, d3, d4, d5, d6, d7, -⟩ := hkF.fs
    unfold putFS at d0 d1 d2 d3 d4 d5 d6 d7
    refine bodyPost_ret (v := .agg #[.int .i64 R.room, .slice (some ⟨gb, 0, none⟩) R.files.length q3, .slice da R.dir.length dc, .slice sa R.sure.length sc, .slice ca R.changes.length cc, .int .i64 R.steps, .int .i64 R.left, .slice pa R.plan.length pc]) (by simp [results, Try.results52, go_sem, d0, d1, d2, d3, d4, d5, d6, d7]) rfl ⟨_, rfl, ?_, ?_⟩
    · exact (HR5.out.to fun k hk => putFS_other (show k ≠ w.heap.size + 2 by rcases hk with hk | ⟨_, hk⟩; omega; cases hk; exact HGW.out.2) _ _ _ _ _ _ _ _).mono fun _ hk => hk.imp (fun h => h.1) (fun h => h.1)
    · exact putFS_below HB5.out (by omega) _ _ _ _ _ _ _ _
end Go.Proofs.Ytpfbiijcmmkjlaa
