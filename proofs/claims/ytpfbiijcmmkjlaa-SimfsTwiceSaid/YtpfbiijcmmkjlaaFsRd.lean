/- The reference of layer 2 (rubricref02): what 'turn' makes of a file system. -/
import Derived.Test.YtpfbiijcmmkjlaaFsRc
import Derived.Test.YtpfbiijcmmkjlaaTail
namespace Go.Proofs.Ytpfbiijcmmkjlaa
open Go.RowKit

/-- What 'turn' makes of the names. -/
def turnR (d l : List RN) : List RN := l.foldl withR d
theorem withGo_length (n : RN) : ∀ (l : List RN) (d : Bool), (withGo n l d).length ≤ l.length + 1
  | [], d => by unfold withGo; split <;> simp
  | x :: l, d => by
    have h1 := withGo_length n l d
    have h2 : (withGo n l true).length ≤ l.length := by
      clear h1
      induction l with
      | nil => simp [withGo]
      | cons y l ih => unfold withGo; split; (simp; omega); split; (rename_i h; cases h.1); (simp; omega)
    unfold withGo
    split
    · simp; omega
    · split
      · simp; omega
      · simp; omega
theorem withR_length (l : List RN) (n : RN) : (withR l n).length ≤ l.length + 1 := withGo_length n l _
theorem turnR_take (d l : List RN) {i : Nat} (hi : i < l.length) : turnR d (l.take (i + 1)) = withR (turnR d (l.take i)) l[i] := by
  unfold turnR; rw [List.take_succ_eq_append_getElem hi, List.foldl_append]; rfl
theorem turnR_length (l : List RN) : ∀ d : List RN, (turnR d l).length ≤ d.length + l.length := by
  induction l with
  | nil => intro d; simp [turnR]
  | cons x l ih => intro d; have := ih (withR d x); have h := withR_length d x; show (turnR (withR d x) l).length ≤ _; simp; omega
theorem RNames.block {w : World} {v : Value} {l : List RN} (h : RNames w v l) : ∀ j, v.ownBlock = some j → j < w.heap.size := by
  rcases h with ⟨rfl, _⟩ | ⟨b, o, cap, rfl, h3, _⟩
  · intro j hj; cases hj
  · intro j hj; cases hj; exact h3
theorem RNames.setCell {w : World} {v : Value} {l : List RN} (h : RNames w v l) {a : Addr} (hne : ∀ j, v.ownBlock = some j → j ≠ a.block) (x : Value) : RNames (w.setCell a x) v l := by
  rcases h with h | ⟨b, o, cap, rfl, h3, h4⟩
  · exact .inl h
  · have hb : (w.setCell a x).heap[b]? = w.heap[b]? := heap_setCell_other w a b x (hne b rfl)
    refine .inr ⟨b, o, cap, rfl, ?_, fun j n hn => ⟨by rw [World.cell?_of_block (w := w) hb]; exact (h4 j n hn).1, by rw [World.cell?_of_block (w := w) hb]; exact (h4 j n hn).2⟩⟩
    have : w.heap[b]?.isSome := by simp [h3]
    rw [← hb] at this
    simpa using this
/-- A world with eight cells of a block turned. -/
def putFS (w : World) (g : Nat) (a0 a1 a2 a3 a4 a5 a6 a7 : Value) : World :=
  (((((((w.setCell ⟨g, 0, none⟩ a0).setCell ⟨g, 1, none⟩ a1).setCell ⟨g, 2, none⟩ a2).setCell ⟨g, 3, none⟩ a3).setCell ⟨g, 4, none⟩ a4).setCell ⟨g, 5, none⟩ a5).setCell ⟨g, 6, none⟩ a6).setCell ⟨g, 7, none⟩ a7
theorem putFS_blk {w : World} {g : Nat} {t : TypeId} {z0 z1 z2 z3 z4 z5 z6 z7 : Value} (h : Blk w g t [z0, z1, z2, z3, z4, z5, z6, z7]) (a0 a1 a2 a3 a4 a5 a6 a7 : Value) : Blk (putFS w g a0 a1 a2 a3 a4 a5 a6 a7) g t [a0, a1, a2, a3, a4, a5, a6, a7] :=
  (((((((h.set 0 a0).set 1 a1).set 2 a2).set 3 a3).set 4 a4).set 5 a5).set 6 a6).set 7 a7
theorem putFS_other {w : World} {g k : Nat} (h : k ≠ g) (a0 a1 a2 a3 a4 a5 a6 a7 : Value) : (putFS w g a0 a1 a2 a3 a4 a5 a6 a7).heap[k]? = w.heap[k]? := by
  unfold putFS
  rw [heap_setCell_other _ _ k _ h, heap_setCell_other _ _ k _ h, heap_setCell_other _ _ k _ h, heap_setCell_other _ _ k _ h, heap_setCell_other _ _ k _ h, heap_setCell_other _ _ k _ h, heap_setCell_other _ _ k _ h, heap_setCell_other _ _ k _ h]
theorem putFS_below {w a : World} {B g : Nat} (h : Below B a w) (hg : B ≤ g) (a0 a1 a2 a3 a4 a5 a6 a7 : Value) : Below B a (putFS w g a0 a1 a2 a3 a4 a5 a6 a7) :=
  (((((((h.setCell (p := ⟨g, 0, none⟩) hg a0).setCell (p := ⟨g, 1, none⟩) hg a1).setCell (p := ⟨g, 2, none⟩) hg a2).setCell (p := ⟨g, 3, none⟩) hg a3).setCell (p := ⟨g, 4, none⟩) hg a4).setCell (p := ⟨g, 5, none⟩) hg a5).setCell (p := ⟨g, 6, none⟩) hg a6).setCell (p := ⟨g, 7, none⟩) hg a7
/-- The value v is a slice of these values, each of one cell, wherever. -/
def RRow (w : World) (v : Value) (xs : List Value) : Prop :=
  (v = .slice none 0 0 ∧ xs = []) ∨ ∃ b o cap, v = .slice (some ⟨b, o, none⟩) xs.length cap ∧ b < w.heap.size ∧ w.rangeAt b o xs
theorem RRow.slice {w : World} {v : Value} {xs : List Value} (h : RRow w v xs) : ∃ a c, v = .slice a xs.length c := by
  rcases h with ⟨rfl, rfl⟩ | ⟨b, o, cap, rfl, _⟩
  · exact ⟨_, _, rfl⟩
  · exact ⟨_, _, rfl⟩
theorem RRow.to {w w' : World} {v : Value} {xs : List Value} (h : RRow w v xs) (hs : ∀ k, v.ownBlock = some k → w'.heap[k]? = w.heap[k]?) : RRow w' v xs := by
  rcases h with h | ⟨b, o, cap, rfl, h3, h4⟩
  · exact .inl h
  · have hb := hs b rfl
    refine .inr ⟨b, o, cap, rfl, ?_, fun j u hu => by rw [World.cell?_of_block (w := w) hb]; exact h4 j u hu⟩
    have : w.heap[b]?.isSome := by simp [h3]
    rw [← hb] at this
    simpa using this
theorem RNames.to {w w' : World} {v : Value} {l : List RN} (h : RNames w v l) (hs : ∀ k, v.ownBlock = some k → w'.heap[k]? = w.heap[k]?) : RNames w' v l := by
  rcases h with h | ⟨b, o, cap, rfl, h3, h4⟩
  · exact .inl h
  · have hb := hs b rfl
    refine .inr ⟨b, o, cap, rfl, ?_, fun j n hn => ⟨by rw [World.cell?_of_block (w := w) hb]; exact (h4 j n hn).1, by rw [World.cell?_of_block (w := w) hb]; exact (h4 j n hn).2⟩⟩
    have : w.heap[b]?.isSome := by simp [h3]
    rw [← hb] at this
    simpa using this
theorem RRow.below {w w' : World} {v : Value} {xs : List Value} (h : RRow w v xs) (hb : Below w.heap.size w w') : RRow w' v xs := by
  rcases h with h | ⟨b, o, cap, rfl, h3, h4⟩
  · exact .inl h
  · exact .inr ⟨b, o, cap, rfl, Nat.lt_of_lt_of_le h3 hb.size, fun j u hu => by rw [World.cell?_of_block (w := w) (hb.block b h3)]; exact h4 j u hu⟩
theorem rrowInfo : (Try.prog.info? 29).map (fun i => (i.zero, i.size, i.bytes)) = some (some (.slice none 0 0), 1, 24) := by kernel_rfl
/-- Slices of names in a row of one's own. -/
def OwnRR (base : Nat) (w : World) (v : Value) (xs : List Value) : Prop := w.ownsRow base 29 1 v xs.length xs
theorem OwnRR.slice {base : Nat} {w : World} {v : Value} {xs : List Value} (h : OwnRR base w v xs) : ∃ a c, v = .slice a xs.length c := by
  rcases h.2 with ⟨rfl, h0⟩ | ⟨x, cap, cur, rfl, _⟩
  · exact ⟨none, 0, by rw [h0]⟩
  · exact ⟨_, _, rfl⟩
theorem OwnRR.own {base : Nat} {w : World} {v : Value} {xs : List Value} (h : OwnRR base w v xs) : ∀ j, v.ownBlock = some j → base ≤ j := by
  rcases h.2 with ⟨rfl, _⟩ | ⟨x, cap, cur, rfl, hb, _⟩
  · intro j hj; cases hj
  · intro j hj; cases hj; exact hb
theorem OwnRR.row {base : Nat} {w : World} {v : Value} {xs : List Value} (h : OwnRR base w v xs) : RRow w v xs := by
  rcases h.2 with ⟨rfl, h0⟩ | ⟨x, cap, cur, rfl, hb, hh, h1, h2, h3, h4⟩
  · exact .inl ⟨rfl, List.length_eq_zero_iff.1 h0⟩
  · refine .inr ⟨x, 0, cap, rfl, (Array.getElem?_eq_some_iff.1 hh).1, fun j u hu => ?_⟩
    have hj : j < xs.length := (List.getElem?_eq_some_iff.1 hu).1
    rw [← h4, List.getElem?_take_of_lt (by omega)] at hu
    rw [cell_of_row w x (0 + j) cur _ _ hh, ← Array.getElem?_toList, Nat.zero_add]; exact hu
/-- An append of slices of names to what the call owns, from any slice of them, as a step of the walk. -/
theorem wpList_append_rr {ops : Array Oper} {rest : List Oper} {o : Oper} {a : Act} {w w0 : World} {Q : Exit → Act → World → Prop} (hgd : o.guard = none) (s x : Operand)
    (ho : o.op = .call { callee := .builtin .append, args := #[s, x], argTypes := #[30, 30] })
    (base : Nat) (v u : Value) (ys p : List Value) (hs : a.eval s = v) (hown : OwnRR base w v ys) (hx : a.eval x = u) (hp : RRow w0 u p) (hb : Below w0.heap.size w0 w) (h1 : ∀ u ∈ p, u.oneCell' = true) (hle : ys.length + p.length ≤ 1000000) (hbase : base ≤ w.heap.size)
    (h : ∀ v' w', OwnRR base w' v' (ys ++ p) → w.grownBy w' v.ownBlock → wpList Try.prog ops Q rest (a.put o.dst v') w') : wpList Try.prog ops Q (o :: rest) a w := by
  obtain ⟨i0, hi, hz0, hz1, hz2⟩ := info_parts rrowInfo
  rcases hp with ⟨rfl, rfl⟩ | ⟨pb, po, cap, rfl, h3, h4⟩
  · refine wpList_append_own_none hgd s x 30 ho base 29 i0 1 Try.underlying30 hi v ys.length ys hs hown hx ?_
    exact h v w (by rw [List.append_nil]; exact hown) ⟨rfl, rfl, rfl, Nat.le_refl _, fun _ _ _ => rfl⟩
  · refine wpList_append_own w hgd s x 30 ho base 29 i0 (.slice none 0 0) 1 24 Try.underlying30 hi hz0 hz1 hz2 rfl (by decide) v ys.length ys hs hown ⟨pb, po, none⟩ p.length cap p hx
      (by simp) (fun j u hu => by rw [Addr.add_mid, World.cell?_of_block (w := w0) (hb.block pb h3)]; exact h4 j u hu) h1 (by unfold maxLen; omega) (by omega) hbase ?_
    intro v' w' h1 h2 _
    refine h v' w' ?_ h2
    unfold OwnRR
    rw [List.length_append]; exact h1
set_option maxRecDepth 100000 in
set_option maxHeartbeats 2000000 in
theorem refTurn_any (room steps left : Int) (fa : Option Addr) (fn fc : Nat) (sa : Option Addr) (sn sc : Nat) (ca : Option Addr) (cn cc : Nat) (pa : Option Addr) (pn pc : Nat) (dv lv : Value) (d l : List RN) (w : World) (hd : RNames w dv d) (hl : RNames w lv l) (hdl : d.length + l.length < 10000) (cvs : List Value) (hc : RRow w (.slice ca cn cc) cvs) (hc1 : ∀ u ∈ cvs, u.oneCell' = true) (hcl : cvs.length < 10000) :
    Calls Try.prog 50 #[fsV room (.slice fa fn fc) dv (.slice sa sn sc) (.slice ca cn cc) steps left (.slice pa pn pc), lv] w fun e w' =>
      ∃ dv' cv', e = .returned (fsV room (.slice fa fn fc) dv' (.slice sa sn sc) cv' steps left (.slice pa pn pc)) ∧ RNames w' dv' (turnR d l) ∧ RRow w' cv' (cvs ++ [lv]) ∧ (∀ j, dv'.ownBlock = some j → dv.ownBlock = some j ∨ w.heap.size ≤ j) ∧ (∀ j, cv'.ownBlock = some j → w.heap.size ≤ j) ∧ Below w.heap.size w w' := by
  obtain ⟨da, dc, rfl⟩ := hd.slice
  obtain ⟨la, lc, rfl⟩ := hl.slice
  unfold fsV
  have HD := Lib.hid hd
  have HL := Lib.hid hl
  have HCV := Lib.hid hc
  have HC1 := Lib.hid hc1
  clear hd hl hc hc1
  go_enter Try.func50, Try.ntmps50
  go_wp2_with fail
  refine wp_world fun wB hwB => ?_
  have hBB : Below w.heap.size w wB := by rw [hwB]; exact ((Below.refl _ _).alloc (Nat.le_refl _) _).alloc (by simp) _
  have hK0 : Blk wB w.heap.size 33 (fsC room (.slice fa fn fc) (.slice da d.length dc) (.slice sa sn sc) (.slice ca cn cc) steps left (.slice pa pn pc)) := by rw [hwB]; exact (Blk.new w 33 (fsC room (.slice fa fn fc) (.slice da d.length dc) (.slice sa sn sc) (.slice ca cn cc) steps left (.slice pa pn pc))).alloc _
  have hK1 : Blk wB (w.heap.size + 1) 33 (fsC 0 (.slice none 0 0) (.slice none 0 0) (.slice none 0 0) (.slice none 0 0) 0 0 (.slice none 0 0)) := by
    rw [hwB]
    have := Blk.new (w.alloc (.cells #[.int .i64 room, .slice fa fn fc, .slice da d.length dc, .slice sa sn sc, .slice ca cn cc, .int .i64 steps, .int .i64 left, .slice pa pn pc] 33)) 33 (fsC 0 (.slice none 0 0) (.slice none 0 0) (.slice none 0 0) (.slice none 0 0) 0 0 (.slice none 0 0))
    rw [World.size_alloc] at this
    exact this
  have HBB := Lib.hid hBB
  have hDB := HD.out.below hBB
  have hLB := HL.out.below hBB
  have HLB := Lib.hid hLB
  have HAP : Hid (∀ j, ((Value.slice da d.length dc).ownBlock = some j ∨ w.heap.size + 2 ≤ j) → j ≠ w.heap.size ∧ j ≠ w.heap.size + 1) := fun j hj => by
    rcases hj with hj | hj
    · have := HD.out.block j hj; omega
    · omega
  have hd0 : ∀ j, (Value.slice da d.length dc).ownBlock = some j → (Value.slice da d.length dc).ownBlock = some j ∨ w.heap.size + 2 ≤ j := fun j hj => .inl hj
  clear hwB hLB
  go_loopw [8] (fun s8 wr => ∃ (i : Nat) (dv : Value), i ≤ l.length ∧ s8 = .int .i64 i ∧ RNames wr dv (turnR d (l.take i)) ∧ (∀ j, dv.ownBlock = some j → (Value.slice da d.length dc).ownBlock = some j ∨ w.heap.size + 2 ≤ j) ∧ Below w.heap.size w wr ∧
      Blk wr w.heap.size 33 (fsC room (.slice fa fn fc) dv (.slice sa sn sc) (.slice ca cn cc) steps left (.slice pa pn pc)) ∧ Blk wr (w.heap.size + 1) 33 (fsC 0 (.slice none 0 0) (.slice none 0 0) (.slice none 0 0) (.slice none 0 0) 0 0 (.slice none 0 0)))
    (fun s8 _ => l.length - (intOf s8).toNat)
  case atStart => exact ⟨0, _, Nat.zero_le _, rfl, hDB, hd0, hBB, hK0, hK1⟩
  case round =>
    clear hDB hd0 hBB hK0 hK1
    obtain ⟨i, dv, hi, rfl, hdv, hne, hBr, hk0, hk1⟩ := hrel
    obtain ⟨ga, gc, rfl⟩ := hdv.slice
    by_cases hlt : i < l.length
    · have li : (i : Int) < l.length := by omega
      have HLW := HL.out.below hBr
      rcases HLW with ⟨_, h0⟩ | ⟨b, o, cap, hv, hb, hc⟩
      · subst h0; simp at hlt
      cases hv
      obtain ⟨c1, c2⟩ := hc i _ (List.getElem?_eq_getElem hlt)
      have c3 := hk0.cell (i := 2) rfl
      have htk := turnR_take d l hlt
      have htl : (turnR d (l.take i)).length < 10000 := by have := turnR_length (l.take i) d; rw [List.length_take] at this; omega
      generalize l[i] = x at c1 c2 htk
      obtain ⟨xs, xf⟩ := x
      simp only at c1 c2
      have HT := Lib.hid htk
      have HBR := Lib.hid hBr
      have HK0 := Lib.hid hk0
      have HK1 := Lib.hid hk1
      have HDV := Lib.hid hdv
      have HTL := Lib.hid htl
      obtain ⟨T, hT⟩ : ∃ T, T = turnR d (l.take i) := ⟨_, rfl⟩
      rw [← hT] at c3 HK0 HT HDV HTL
      clear hc htk htl hne hBr hk0 hk1 hdv hT
      go_upto_region 4 with fail
      refine wp_region_quiet_tail 6 (by kernel_rfl) (by kernel_rfl) ?_
      simp only [List.take_succ_cons, List.take_zero, List.drop_succ_cons, List.drop_zero]
      repeat (go_big_quiet_step (fail))
      refine wpQuiet_nil ?_
      intro nq
      go_wp2_with fail
      refine (refWith_any _ T (xs, xf) (wr.drewN nq) (RNames.below HDV.out (Below.drewN (Below.refl _ wr) nq)) HTL.out).mono ?_; rintro e w2 ⟨v2, rfl, ho2, hb2⟩
      rw [← HT.out] at ho2
      have hb2' : Below wr.heap.size wr w2 := Below.trans (Below.drewN (Below.refl _ wr) nq) hb2
      obtain ⟨a2, q2, rfl⟩ := ho2.slice
      have hk0 := (show Blk w2 w.heap.size 33 _ from (hb2'.block _ HK0.out.lt).trans HK0.out)
      have hk1 := (show Blk w2 (w.heap.size + 1) 33 _ from (hb2'.block _ HK1.out.lt).trans HK1.out)
      have hn2 : ∀ j, (Value.slice a2 (turnR d (l.take (i + 1))).length q2).ownBlock = some j → (Value.slice da d.length dc).ownBlock = some j ∨ w.heap.size + 2 ≤ j := fun j hj => .inr (by
        have h1 := ho2.own j hj
        have h2 : wr.heap.size ≤ j := h1
        have := HK0.out.lt; have := HK1.out.lt; omega)
      have f2 := hk0.frozen 2
      have d2 := hk0.cell (i := 2) rfl
      have HS := Lib.hid (ho2.names.setCell (a := ⟨w.heap.size, 2, none⟩) (fun j hj => (HAP.out j (hn2 j hj)).1) (.slice a2 (turnR d (l.take (i + 1))).length q2))
      have HN2 := Lib.hid hn2
      have HB2 := Lib.hid ((HBR.out.trans (hb2'.mono HBR.out.size)).setCell (p := ⟨w.heap.size, 2, none⟩) (Nat.le_refl _) (.slice a2 (turnR d (l.take (i + 1))).length q2))
      have HE0 := Lib.hid (hk0.set 2 (.slice a2 (turnR d (l.take (i + 1))).length q2))
      have HE1 := Lib.hid (hk1.set_other (a := ⟨w.heap.size, 2, none⟩) (by simp) (.slice a2 (turnR d (l.take (i + 1))).length q2))
      clear ho2 hb2 hb2' hk0 hk1 hn2 c1 c2 c3
      go_wp2_with fail
      go_roundw
      case rel => exact ⟨i + 1, _, by omega, by go_num, HS.out, HN2.out, HB2.out, HE0.out, HE1.out⟩
      case measure => simp [intOf]; omega
    · have li : ¬ ((i : Int) < l.length) := by omega
      rw [List.take_of_length_le (show l.length ≤ i by omega)] at hdv hk0 hne
      obtain ⟨T, hT⟩ : ∃ T, T = turnR d l := ⟨_, rfl⟩
      rw [← hT] at hdv hk0 hne
      have c4 : ∀ A, (wr.alloc A).cell? ⟨w.heap.size, 4, none⟩ = some (.slice ca cn cc) := fun A => (hk0.alloc A).cell rfl
      have HK0 := Lib.hid hk0
      have HK1 := Lib.hid hk1
      have HDV := Lib.hid hdv
      have HBR := Lib.hid hBr
      have HNE := Lib.hid hne
      have HT := Lib.hid hT
      have hoE : OwnRR wr.heap.size (wr.alloc (.cells #[] 29)) (.slice (some ⟨wr.heap.size, 0, none⟩) 0 0) [] :=
        ⟨rfl, .inr ⟨wr.heap.size, 0, #[], rfl, Nat.le_refl _, heap_alloc_new wr _, Nat.le_refl _, by unfold maxLen; omega, rfl, rfl⟩⟩
      have HOE := Lib.hid hoE
      have HCL := Lib.hid hcl
      clear hk0 hk1 hdv hBr hne hT hoE hi hlt hcl hdl
      go_wp2_with (with_reducible refine wpList_append_rr rfl (.tmp 20) (.tmp 22) rfl wr.heap.size (.slice (some ⟨wr.heap.size, 0, none⟩) 0 0) (.slice ca cn cc) [] cvs ?_ HOE.out ?_ HCV.out ?_ HC1.out ?_ ?_ ?_)
      case refine_3 => exact (HBR.out).alloc HBR.out.size _
      case refine_4 => have := HCL.out; simp; omega
      intro v3 w3 ho3 hg3
      obtain ⟨a3, q3, rfl⟩ := ho3.slice
      have hb3 : Below wr.heap.size wr w3 := ((Below.refl _ _).alloc (Nat.le_refl _) _).grown hg3 (by simp) fun j hj => by cases hj; exact Nat.le_refl _
      have HB3 := Lib.hid hb3
      have HO3 := Lib.hid (show OwnRR wr.heap.size (w3.alloc (.cells #[.slice la l.length lc] 29)) (.slice a3 cvs.length q3) cvs from World.ownsRow.alloc ho3 _)
      have HR3 := Lib.hid (show RRow (w3.alloc (.cells #[.slice la l.length lc] 29)) (.slice (some ⟨w3.heap.size, 0, none⟩) 1 1) [.slice la l.length lc] from
        .inr ⟨w3.heap.size, 0, 1, rfl, by simp, (Blk.new w3 29 [.slice la l.length lc]).range 0 _ fun j v hv => by rw [Nat.zero_add]; exact hv⟩)
      clear c4 ho3 hg3 hb3
      go_wp2_with (with_reducible refine wpList_append_rr rfl (.tmp 23) (.tmp 25) rfl wr.heap.size (.slice a3 cvs.length q3) (.slice (some ⟨w3.heap.size, 0, none⟩) 1 1) cvs [.slice la l.length lc] ?_ HO3.out ?_ HR3.out ?_ ?_ ?_ ?_ ?_)
      case refine_1 => rfl
      case refine_2 => rfl
      case refine_3 => exact Below.refl _ _
      case refine_4 => intro u hu; simp at hu; subst hu; rfl
      case refine_5 => have := HCL.out; simp; omega
      case refine_6 => have := HB3.out.size; simp; omega
      intro v4 w4 ho4 hg4
      obtain ⟨ca4, hca4⟩ : ∃ n, n = (cvs ++ [Value.slice la l.length lc]).length := ⟨_, rfl⟩
      obtain ⟨a4, q4, hv4⟩ := ho4.slice
      rw [← hca4] at hv4
      subst hv4
      have hb4 : Below wr.heap.size wr w4 := (HB3.out.alloc HB3.out.size _).grown hg4 (by have := HB3.out.size; simp; omega) (fun j hj => HO3.out.own j hj)
      have hk0 := (show Blk w4 w.heap.size 33 _ from (hb4.block _ HK0.out.lt).trans HK0.out)
      have hk1 := (show Blk w4 (w.heap.size + 1) 33 _ from (hb4.block _ HK1.out.lt).trans HK1.out)
      have f4 := hk0.frozen 4
      have hne4 : ∀ j, (Value.slice a4 ca4 q4).ownBlock = some j → w.heap.size + 2 ≤ j := fun j hj => by have h1 := ho4.own j hj; have := HK0.out.lt; have := HK1.out.lt; omega
      have HO4 := Lib.hid ho4
      have HK4 := Lib.hid (hk0.set 4 (.slice a4 ca4 q4))
      have HK5 := Lib.hid (hk1.set_other (a := ⟨w.heap.size, 4, none⟩) (by simp) (.slice a4 ca4 q4))
      have HB4 := Lib.hid hb4
      have HN4 := Lib.hid hne4
      have d4 := hk0.cell (i := 4) rfl
      clear hg4 hb4 hk0 hk1 ho4 hca4 hne4 HO3 HR3 HB3
      go_upto_region 7 with fail
      generalize hw5 : w4.setCell ⟨w.heap.size, 4, none⟩ (.slice a4 ca4 q4) = w5
      have hk0 : Blk w5 w.heap.size 33 (fsC room (.slice fa fn fc) (.slice ga T.length gc) (.slice sa sn sc) (.slice a4 ca4 q4) steps left (.slice pa pn pc)) := by rw [← hw5]; exact HK4.out
      have hk1 : Blk w5 (w.heap.size + 1) 33 (fsC 0 (.slice none 0 0) (.slice none 0 0) (.slice none 0 0) (.slice none 0 0) 0 0 (.slice none 0 0)) := by rw [← hw5]; exact HK5.out
      have hdT : RNames w5 (.slice ga T.length gc) T := by rw [← hw5]; exact (HDV.out.below HB4.out).setCell (fun j hj => (HAP.out j (HNE.out j hj)).1) _
      have hcT : RRow w5 (.slice a4 ca4 q4) (cvs ++ [.slice la l.length lc]) := by rw [← hw5]; exact HO4.out.row.to (fun j hj => heap_setCell_other w4 _ j _ (show j ≠ w.heap.size by have := HN4.out j hj; omega))
      have hB5 : Below w.heap.size w w5 := by rw [← hw5]; exact (HBR.out.trans (HB4.out.mono HBR.out.size)).setCell (Nat.le_refl _) _
      have HDT := Lib.hid hdT
      have HCT := Lib.hid hcT
      have HB5 := Lib.hid hB5
      have HKR := Lib.hid hk1
      have x0 := hk0.cell (i := 0) rfl
      have x1 := hk0.cell (i := 1) rfl
      have x2 := hk0.cell (i := 2) rfl
      have x3 := hk0.cell (i := 3) rfl
      have x4 := hk0.cell (i := 4) rfl
      have x5 := hk0.cell (i := 5) rfl
      have x6 := hk0.cell (i := 6) rfl
      have x7 := hk0.cell (i := 7) rfl
      have y0 := hk1.frozen 0
      have y1 := hk1.frozen 1
      have y2 := hk1.frozen 2
      have y3 := hk1.frozen 3
      have y4 := hk1.frozen 4
      have y5 := hk1.frozen 5
      have y6 := hk1.frozen 6
      have y7 := hk1.frozen 7
      have z0 := hk1.cell (i := 0) rfl
      have z1 := hk1.cell (i := 1) rfl
      have z2 := hk1.cell (i := 2) rfl
      have z3 := hk1.cell (i := 3) rfl
      have z4 := hk1.cell (i := 4) rfl
      have z5 := hk1.cell (i := 5) rfl
      have z6 := hk1.cell (i := 6) rfl
      have z7 := hk1.cell (i := 7) rfl
      clear hw5 hk0 hk1 hdT hcT hB5 HK4 HK5 HDV HBR HB4 HO4 d4 f4 HK0 HK1
      go_wp2_with fail
      have hkF := putFS_blk HKR.out (.int .i64 room) (.slice fa fn fc) (.slice ga T.length gc) (.slice sa sn sc) (.slice a4 ca4 q4) (.int .i64 steps) (.int .i64 left) (.slice pa pn pc)
      have d0 := hkF.cell (i := 0) rfl
      have d1 := hkF.cell (i := 1) rfl
      have d2 := hkF.cell (i := 2) rfl
      have d3 := hkF.cell (i := 3) rfl
      have d4 := hkF.cell (i := 4) rfl
      have d5 := hkF.cell (i := 5) rfl
      have d6 := hkF.cell (i := 6) rfl
      have d7 := hkF.cell (i := 7) rfl
      unfold putFS at d0 d1 d2 d3 d4 d5 d6 d7
      clear hkF x0 x1 x2 x3 x4 x5 x6 x7 y0 y1 y2 y3 y4 y5 y6 y7 z0 z1 z2 z3 z4 z5 z6 z7
      refine bodyPost_ret (v := .agg #[.int .i64 room, .slice fa fn fc, .slice ga T.length gc, .slice sa sn sc, .slice a4 ca4 q4, .int .i64 steps, .int .i64 left, .slice pa pn pc]) (by simp [results, Try.results50, go_sem, d0, d1, d2, d3, d4, d5, d6, d7]) rfl ⟨.slice ga T.length gc, .slice a4 ca4 q4, rfl, ?_, ?_, fun j hj => (HNE.out j hj).imp id (fun h => by omega), fun j hj => by have := HN4.out j hj; omega, ?_⟩
      · rw [← HT.out]; exact HDT.out.to fun k hk => putFS_other (HAP.out k (HNE.out k hk)).2 _ _ _ _ _ _ _ _
      · exact HCT.out.to fun k hk => putFS_other (show k ≠ w.heap.size + 1 by have := HN4.out k hk; omega) _ _ _ _ _ _ _ _
      · exact putFS_below HB5.out (by omega) _ _ _ _ _ _ _ _
end Go.Proofs.Ytpfbiijcmmkjlaa
