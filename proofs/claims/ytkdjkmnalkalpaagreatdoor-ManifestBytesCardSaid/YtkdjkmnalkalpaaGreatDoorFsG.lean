/- Package simfs: changes of the directory are made, kept and done. Package simfs: 'change', 'find', 'New'. Package simfs: 'find', 'New', 'Create'. Package simfs: 'Create', 'Remove', 'Rename'. -/
import Derived.Test.YtkdjkmnalkalpaaGreatDoorFsN
import Derived.Test.YtkdjkmnalkalpaaGreatDoorQuiet
namespace Go.Proofs.YtkdjkmnalkalpaaGreatDoor
open Go.RowKit Go.Maps Go.WideMaps
set_option maxRecDepth 100000

set_option maxHeartbeats 400000 in
theorem clone_any (s : ByteArray) (w : World) (hs : s.size ≤ 1000) :
    Calls Tryz.prog 164 #[.string s] w fun e w' => e = .returned (.string s) ∧ Below w.heap.size w w' := by
  have h := fun W => Tryz.stringslite_Clone s W (by omega)
  go_enter Tryz.func164, Tryz.ntmps164
  go_wp2_with fail
  refine (h _).mono ?_; rintro e w1 ⟨rfl, hb⟩
  go_wp2_with fail
  go_ret
  exact ⟨rfl, hb⟩

def newB (w w' : World) : Nat → Prop := fun k => w.heap.size ≤ k ∧ k < w'.heap.size
set_option maxHeartbeats 1000000 in
theorem creation_any (n : ByteArray) (b : Nat) (w : World) (hs : n.size ≤ 20) :
    Calls Tryz.prog 100 #[.string n, .pointer (some ⟨b, 0, none⟩)] w fun e w' => ∃ v, e = .returned v ∧ Clo w' (newB w w') v (.create n b) ∧ Below w.heap.size w w' := by
  have hcl := fun W => clone_any n W (by omega)
  go_enter Tryz.func100, Tryz.ntmps100
  go_upto_region 1 with (fail)
  refine wp_world fun w1 hw1 => ?_
  have hn1 : Blk w1 w.heap.size 9 [.string n] := by rw [hw1]; exact (Blk.new w _ [.string n]).alloc _
  have hx1 : Blk w1 (w.heap.size + 1) 173 [.pointer (some ⟨b, 0, none⟩)] := by rw [hw1]; have := Blk.new (w.alloc (.cells #[.string n] 9)) 173 [.pointer (some ⟨b, 0, none⟩)]; rw [World.size_alloc] at this; exact this
  have hB1 : Below w.heap.size w w1 := by rw [hw1]; exact ((Below.refl _ _).alloc (Nat.le_refl _) _).alloc (by simp) _
  clear hw1
  have c1 := hn1.cell (i := 0) rfl
  have HN := Lib.hid hn1
  have HX := Lib.hid hx1
  have HB := Lib.hid hB1
  have HC := Lib.hid hcl
  clear hn1 hx1 hB1 hcl
  go_wp2_with fail
  refine (HC.out _).mono ?_; rintro e w2 ⟨rfl, hb2⟩
  have hn2 := Below.blk hb2 HN.out.lt HN.out
  have hx2 := Below.blk hb2 HX.out.lt HX.out
  have hB2 := HB.out.trans (hb2.mono HB.out.size)
  have c2 := hn2.cell (i := 0) rfl
  have f2 := hn2.frozen 0
  have HN2 := Lib.hid (hn2.set 0 (.string n))
  have HX2 := Lib.hid (hx2.set_other (a := ⟨w.heap.size, 0, none⟩) (by simp) (.string n))
  have HB2 := Lib.hid (hB2.setCell (p := ⟨w.heap.size, 0, none⟩) (Nat.le_refl _) (.string n))
  clear hn2 hx2 hB2 hb2 c1
  go_wp2_with fail
  go_ret
  exact ⟨_, rfl, ⟨_, _, rfl, HX2.out, HN2.out, ⟨by omega, HX2.out.lt⟩, ⟨by omega, HN2.out.lt⟩, hs⟩, HB2.out⟩
set_option maxHeartbeats 1000000 in
theorem removal_any (n : ByteArray) (w : World) (hs : n.size ≤ 20) :
    Calls Tryz.prog 141 #[.string n] w fun e w' => ∃ v, e = .returned v ∧ Clo w' (newB w w') v (.remove n) ∧ Below w.heap.size w w' := by
  have hcl := fun W => clone_any n W (by omega)
  go_enter Tryz.func141, Tryz.ntmps141
  go_upto_region 1 with (fail)
  refine wp_world fun w1 hw1 => ?_
  have hn1 : Blk w1 w.heap.size 9 [.string n] := by rw [hw1]; exact Blk.new w _ [.string n]
  have hB1 : Below w.heap.size w w1 := by rw [hw1]; exact (Below.refl _ _).alloc (Nat.le_refl _) _
  clear hw1
  have c1 := hn1.cell (i := 0) rfl
  have HN := Lib.hid hn1
  have HB := Lib.hid hB1
  have HC := Lib.hid hcl
  clear hn1 hB1 hcl
  go_wp2_with fail
  refine (HC.out _).mono ?_; rintro e w2 ⟨rfl, hb2⟩
  have hn2 := Below.blk hb2 HN.out.lt HN.out
  have hB2 := HB.out.trans (hb2.mono HB.out.size)
  have c2 := hn2.cell (i := 0) rfl
  have f2 := hn2.frozen 0
  have HN2 := Lib.hid (hn2.set 0 (.string n))
  have HB2 := Lib.hid (hB2.setCell (p := ⟨w.heap.size, 0, none⟩) (Nat.le_refl _) (.string n))
  clear hn2 hB2 hb2 c1
  go_wp2_with fail
  go_ret
  exact ⟨_, rfl, ⟨_, rfl, HN2.out, ⟨by omega, HN2.out.lt⟩, hs⟩, HB2.out⟩
set_option maxHeartbeats 1000000 in
theorem renaming_any (n m : ByteArray) (w : World) (hs : n.size ≤ 20) (hm : m.size ≤ 20) :
    Calls Tryz.prog 140 #[.string n, .string m] w fun e w' => ∃ v, e = .returned v ∧ Clo w' (newB w w') v (.rename n m) ∧ Below w.heap.size w w' := by
  have hcl := fun W => clone_any n W (by omega)
  have hcm := fun W => clone_any m W (by omega)
  go_enter Tryz.func140, Tryz.ntmps140
  go_upto_region 1 with (fail)
  refine wp_world fun w1 hw1 => ?_
  have hn1 : Blk w1 w.heap.size 9 [.string n] := by rw [hw1]; exact (Blk.new w _ [.string n]).alloc _
  have hx1 : Blk w1 (w.heap.size + 1) 9 [.string m] := by rw [hw1]; have := Blk.new (w.alloc (.cells #[.string n] 9)) 9 [.string m]; rw [World.size_alloc] at this; exact this
  have hB1 : Below w.heap.size w w1 := by rw [hw1]; exact ((Below.refl _ _).alloc (Nat.le_refl _) _).alloc (by simp) _
  clear hw1
  have c1 := hn1.cell (i := 0) rfl
  have c2 := hx1.cell (i := 0) rfl
  have HN := Lib.hid hn1
  have HX := Lib.hid hx1
  have HB := Lib.hid hB1
  have HC := Lib.hid hcl
  have HCM := Lib.hid hcm
  clear hn1 hx1 hB1 hcl hcm
  go_wp2_with fail
  have f1 := HN.out.frozen 0
  have f2 := HX.out.frozen 0
  have hl1 := HN.out.lt
  have hl2 := HX.out.lt
  have k1 : ∀ W, Below w1.heap.size w1 W → W.cell? ⟨w.heap.size, 0, none⟩ = some (.string n) := fun W hb => (hb.cell (p := ⟨w.heap.size, 0, none⟩) hl1).trans c1
  have k2 : ∀ W, Below w1.heap.size w1 W → W.cell? ⟨w.heap.size + 1, 0, none⟩ = some (.string m) := fun W hb => (hb.cell (p := ⟨w.heap.size + 1, 0, none⟩) hl2).trans c2
  refine wp_region_quiet_tail_in (fun W => Below w1.heap.size w1 W) 4 (by kernel_rfl) (by kernel_rfl) ⟨rfl, rfl, rfl, Nat.le_refl _, fun _ _ => rfl⟩ ?_
  simp only [List.take_succ_cons, List.take_zero, List.drop_succ_cons, List.drop_zero]
  refine wpQuiet_run (.string n) rfl (fun w' hb => by have := k1 w' hb; go_simp) ?_
  refine wpQuiet_step (fun K hK => ?_); go_simp; refine ⟨.string n, fun w' hb => (HC.out w').mono fun e w'' ⟨he, hb'⟩ => ⟨he, hb.trans (hb'.mono hb.size)⟩, hK _ ?_⟩; clear hK K
  refine wpQuiet_run (.string m) rfl (fun w' hb => by have := k2 w' hb; go_simp) ?_
  refine wpQuiet_step (fun K hK => ?_); go_simp; refine ⟨.string m, fun w' hb => (HCM.out w').mono fun e w'' ⟨he, hb'⟩ => ⟨he, hb.trans (hb'.mono hb.size)⟩, hK _ ?_⟩; clear hK K
  refine wpQuiet_nil ?_
  intro w2 hb2
  have hn2 := Below.blk hb2 hl1 HN.out
  have hx2 := Below.blk hb2 hl2 HX.out
  have hB2 := HB.out.trans (hb2.mono HB.out.size)
  have c3 := hn2.cell (i := 0) rfl
  have c4 := hx2.cell (i := 0) rfl
  have f3 := hn2.frozen 0
  have f4 := hx2.frozen 0
  have HN2 := Lib.hid ((hn2.set 0 (.string n)).set_other (a := ⟨w.heap.size + 1, 0, none⟩) (by simp) (.string m))
  have HX2 := Lib.hid ((hx2.set_other (a := ⟨w.heap.size, 0, none⟩) (by simp) (.string n)).set 0 (.string m))
  have HB2 := Lib.hid ((hB2.setCell (p := ⟨w.heap.size, 0, none⟩) (Nat.le_refl _) (.string n)).setCell (p := ⟨w.heap.size + 1, 0, none⟩) (by simp) (.string m))
  clear hn2 hx2 hB2 hb2 c1 c2 f1 f2 k1 k2
  go_wp2
  go_simp
  go_ret
  exact ⟨_, rfl, ⟨_, _, rfl, HN2.out, HX2.out, ⟨by omega, HN2.out.lt⟩, ⟨by omega, HX2.out.lt⟩, hs, hm⟩, HB2.out⟩
end Go.Proofs.YtkdjkmnalkalpaaGreatDoor
namespace Go.Proofs.YtkdjkmnalkalpaaGreatDoor
open Go.RowKit Go.Maps Go.WideMaps
set_option maxRecDepth 100000

section
variable {w w' : World} {g : Nat} {S T : Nat → Prop} {A : FsA} {pv : Value} {bn bs : Nat} {sv : Value} {vs : List Value} {dv : Nat → Value}
theorem heap_lt {k : Nat} {o : Obj} (e : w.heap[k]? = some o) : k < w.heap.size := by
  by_cases c : k < w.heap.size
  · exact c
  · rw [Array.getElem?_eq_none (by omega)] at e; cases e
theorem FsM.turn (h : FsM w g S A pv bn bs sv vs dv) (hg : w.grownBy w' (some bn)) {D : DataW Unit} (hd : Dir w' bn D) : FsM w' g S { A with now := D } pv bn bs sv vs dv := by
  obtain ⟨es, cl, hn, _⟩ := h.now
  have hs : ∀ {k : Nat} {cs : Array Value} {t : TypeId} {fr : Nat × Nat}, w.heap[k]? = some (.cells cs t fr) → w'.heap[k]? = w.heap[k]? := fun {k cs t fr} e =>
    hg.block k (heap_lt e) (fun x => kind_ne e hn (by intro y; cases y) (Option.some.inj x))
  have hsu := h.sure
  refine { row := Blk.of (hs h.row) h.row, gS := h.gS, plan := h.plan.to fun k cur e _ => hs e, planS := h.planS, now := hd, nS := h.nS, sure := h.sure.to ?_, sS := h.sS, ne := h.ne, since := ownsRow_to h.since fun k cur e _ => hs e, sinceS := h.sinceS, cloL := h.cloL, clo := ?_, file := ?_, apart := h.apart }
  · exact hg.block bs h.sure.lt (fun x => h.ne (Option.some.inj x).symm)
  · intro i c e
    obtain ⟨v, h1, h2⟩ := h.clo i c e
    refine ⟨v, h1, h2.to (fun _ k => k) fun k cs hk _ => ?_⟩
    rcases hk with hk | hk
    · exact hs hk
    · exact hs hk
  · intro b f e
    obtain ⟨h1, h2, h3⟩ := h.file b f e
    exact ⟨h1.to (hs h1.1) fun k cur e _ => hs e, h2, h3⟩
theorem FsM.more (h : FsM w g S A pv bn bs sv vs dv) (hs : ∀ k, k < w.heap.size → k ≠ g → (∀ x, sv.ownBlock = some x → k ≠ x) → w'.heap[k]? = w.heap[k]?) (hT : ∀ k, S k → T k)
    {sv' : Value} {v : Value} {c : Chg} (hr : Blk w' g 105 (fsRow A.count A.armed A.left pv A.room A.created bn bs sv'))
    (ho : w'.ownsRow 0 177 1 sv' (vs ++ [v]).length (vs ++ [v])) (hoS : ∀ k, sv'.ownBlock = some k → T k) (hc : Clo w' T v c) : FsM w' g T { A with since := A.since ++ [c] } pv bn bs sv' (vs ++ [v]) dv := by
  have hsv : ∀ x, sv.ownBlock = some x → ∃ cur, w.heap[x]? = some (.cells cur 177 (0, 0)) := by
    intro x hx
    rcases h.since.2 with ⟨hv, _⟩ | ⟨y, cap, cur, hv, _, hy, _⟩
    · rw [hv] at hx; cases hx
    · rw [hv] at hx; cases hx; exact ⟨cur, hy⟩
  have hk : ∀ {k : Nat} {o : Obj}, w.heap[k]? = some o → (∀ cs, o ≠ .cells cs 105 (0, 0)) → (∀ cs, o ≠ .cells cs 177 (0, 0)) → w'.heap[k]? = w.heap[k]? := fun {k o} e h1 h2 =>
    hs k (heap_lt e) (kind_ne e h.row (h1 _)) fun x hx => by obtain ⟨cur, hcur⟩ := hsv x hx; exact kind_ne e hcur (h2 _)
  have ct : ∀ {cs cs' : Array Value} {t t' : TypeId} {fr fr' : Nat × Nat}, t ≠ t' → Obj.cells cs t fr ≠ .cells cs' t' fr' := fun hne e => by injection e with _ e2 _; exact hne e2
  obtain ⟨es, cl, hn, _⟩ := h.now
  obtain ⟨es', cl', hsu, _⟩ := h.sure
  refine { row := hr, gS := hT _ h.gS, plan := h.plan.to fun k cur e _ => hk e (fun _ => ct (by decide)) (fun _ => ct (by decide)), planS := fun k o => hT _ (h.planS k o), now := h.now.to (hk hn (by intro _ e; cases e) (by intro _ e; cases e)), nS := hT _ h.nS, sure := h.sure.to (hk hsu (by intro _ e; cases e) (by intro _ e; cases e)), sS := hT _ h.sS, ne := h.ne, since := ho, sinceS := hoS, cloL := by simp [h.cloL], clo := ?_, file := ?_, apart := h.apart }
  · intro i d e
    have e' : (A.since ++ [c])[i]? = some d := e
    by_cases hi : i < A.since.length
    · rw [List.getElem?_append_left hi] at e'
      obtain ⟨u, h1, h2⟩ := h.clo i d e'
      refine ⟨u, by rw [List.getElem?_append_left (by rw [h.cloL]; exact hi)]; exact h1, h2.to hT fun k cs hkk _ => ?_⟩
      rcases hkk with hkk | hkk
      · exact hk hkk (fun _ => ct (by decide)) (fun _ => ct (by decide))
      · exact hk hkk (fun _ => ct (by decide)) (fun _ => ct (by decide))
    · rw [List.getElem?_append_right (by omega)] at e'
      have hi0 : i - A.since.length = 0 := by
        have := (List.getElem?_eq_some_iff.1 e').1
        simp at this; omega
      rw [hi0] at e'
      have hcd : c = d := by simpa using e'
      subst hcd
      exact ⟨v, by rw [List.getElem?_append_right (by rw [h.cloL]; omega), h.cloL, hi0]; rfl, hc⟩
  · intro b f e
    obtain ⟨h1, h2, h3⟩ := h.file b f e
    exact ⟨h1.to (hk h1.1 (fun _ => ct (by decide)) (fun _ => ct (by decide))) fun k cur e _ => hk e (fun _ => ct (by decide)) (fun _ => ct (by decide)), hT _ h2, fun k o => hT _ (h3 k o)⟩
end

theorem own_slice {w : World} {base : Nat} {e size : Nat} {v : Value} {n : Nat} {xs : List Value} (h : w.ownsRow base e size v n xs) : ∃ a c, v = .slice a n c := by
  rcases h.2 with ⟨rfl, rfl⟩ | ⟨g, cap, cur, rfl, _⟩
  · exact ⟨_, _, rfl⟩
  · exact ⟨_, _, rfl⟩
theorem fnInfo : (Tryz.prog.info? 177).map (fun i => (i.zero, i.size, i.bytes)) = some (some .nilFunc, 1, 8) := by kernel_rfl

set_option maxHeartbeats 4000000 in
theorem change_any (g : Nat) (S : Nat → Prop) (A : FsA) (v : Value) (c : Chg) (w : World) (h : Fs w g S A) (hc : Clo w S v c) (hz : Maps.size A.now < 1000000) (hl : A.since.length < 1000000) :
    Calls Tryz.prog 99 #[.pointer (some ⟨g, 0, none⟩), v] w fun e w' => e = .returned (.tuple #[]) ∧ Fs w' g (grow S w w') { A with now := c.ap A.now, since := A.since ++ [c] } ∧ Keep S w w' := by
  obtain ⟨pv, bn, bs, sv, vs, dv, h⟩ := h
  obtain ⟨i0, hi, hz0, hz1, hz2⟩ := info_parts fnInfo
  have HI := Lib.hid hi
  have HZ0 := Lib.hid hz0
  have HZ1 := Lib.hid hz1
  have HZ2 := Lib.hid hz2
  clear hi hz0 hz1 hz2
  have c6 := h.row.cell (i := 6) rfl
  have HM := Lib.hid h
  have HC := Lib.hid hc
  have hD := h.now
  have hvl : vs.length < 1000000 := by rw [h.cloL]; exact hl
  have hov : v.oneCell' = true := by cases c <;> (first | (obtain ⟨_, _, rfl, _⟩ := hc; rfl) | (obtain ⟨_, rfl, _⟩ := hc; rfl))
  have HO := Lib.hid hov
  obtain ⟨fn, cap, hv, heg, hf⟩ : ∃ fn cap, v = .func (.func fn) #[] cap ∧ (∀ args w, (callFunc fn args).run Tryz.prog w = .ok (.enter fn args) w) ∧ Calls Tryz.prog fn (#[.map (some bn)] ++ cap) w fun e w' => e = .returned (.tuple #[]) ∧ Dir w' bn (c.ap A.now) ∧ w.grownBy w' (some bn) := by
    cases c with
    | create n b => obtain ⟨xb, nb, hv, h2, h3, _, _, h6⟩ := hc; exact ⟨_, _, hv, enters_of Tryz.func165 (by kernel_rfl) rfl, create1_any xb nb bn n b A.now w h2 h3 h6 hD hz⟩
    | rename a b => obtain ⟨xa, xb, hv, h2, h3, _, _, h6, h7⟩ := hc; exact ⟨_, _, hv, enters_of Tryz.func188 (by kernel_rfl) rfl, rename1_any xa xb bn a b A.now w h2 h3 h6 h7 hD hz⟩
    | remove a => obtain ⟨xa, hv, h2, _, h6⟩ := hc; exact ⟨_, _, hv, enters_of Tryz.func189 (by kernel_rfl) rfl, remove1_any xa bn a A.now w h2 h6 hD⟩
  have HF := Lib.hid hf
  clear h hc hov hf hD
  subst hv
  have HVL := Lib.hid hvl
  have HL := Lib.hid hl
  clear hvl hl hz
  go_enter Tryz.func99, Tryz.ntmps99
  go_wp2_with fail
  refine HF.out.mono ?_; rintro e w1 ⟨rfl, hd1, hg1⟩
  have M1 := HM.out.turn hg1 hd1
  have hcl1 : Clo w1 S (.func (.func fn) #[] cap) c := HC.out.to (fun _ k => k) fun k cs hk _ => by
    obtain ⟨es, cl, hn, _⟩ := HM.out.now
    rcases hk with hk | hk
    · exact hg1.block k (heap_lt hk) (fun x => kind_ne hk hn (by intro y; cases y) (Option.some.inj x))
    · exact hg1.block k (heap_lt hk) (fun x => kind_ne hk hn (by intro y; cases y) (Option.some.inj x))
  have hK1 : Keep S w w1 := Keep.of_grown hg1 fun x hx => by cases hx; exact HM.out.nS
  clear hd1 hg1
  obtain ⟨sa, sc, rfl⟩ := own_slice M1.since
  have c8 := M1.row.cell (i := 8) rfl
  have HOW := Lib.hid (World.ownsRow.alloc M1.since (.cells #[.func (.func fn) #[] cap] 177))
  have HM1 := Lib.hid M1
  have HCL := Lib.hid hcl1
  have HK := Lib.hid hK1
  clear M1 hcl1 hK1 heg
  have H63 : Hid (vs.length + 1 ≤ maxLen) := by show _ ≤ _; have := HVL.out; unfold maxLen; omega
  have HBY : Hid ((vs.length + 1) * 8 ≤ 140737488355328) := by show _ ≤ _; have := HVL.out; omega
  have HON : Hid (∀ u ∈ [Value.func (.func fn) #[] cap], u.oneCell' = true) := fun u hu => by obtain rfl := List.mem_singleton.1 hu; exact HO.out
  go_wp2_with (with_reducible refine wpList_append_own_at _ rfl (.tmp 14) (.tmp 16) 103 rfl 0 177 i0 .nilFunc 1 8 Tryz.underlying103 HI.out HZ0.out HZ1.out HZ2.out rfl (by decide) (.slice sa vs.length sc) vs.length vs rfl HOW.out ⟨w1.heap.size, 0, none⟩ 1 1 [.func (.func fn) #[] cap] rfl rfl (cell_one_new _ _ _) HON.out H63.out HBY.out (Nat.zero_le _) ?_)
  intro v' w2 ho2 hg2 _ hloc
  obtain ⟨va, vc, rfl⟩ := own_slice ho2
  have hz1 : w1.heap.size < (w1.alloc (.cells #[.func (.func fn) #[] cap] 177)).heap.size := by simp
  have hsame : ∀ k, k < w1.heap.size → (∀ x, (Value.slice sa vs.length sc).ownBlock = some x → k ≠ x) → w2.heap[k]? = w1.heap[k]? := fun k hk hne =>
    (hg2.block k (by omega) (fun e => hne k e.symm rfl)).trans (Below.heap_alloc _ _ k hk)
  have hgne : ∀ x, (Value.slice sa vs.length sc).ownBlock = some x → g ≠ x := by
    intro x hx
    rcases HM1.out.since.2 with ⟨hv, _⟩ | ⟨y, cap', cur, hv, _, hy, _⟩
    · rw [hv] at hx; cases hx
    · rw [hv] at hx; cases hx
      exact kind_ne HM1.out.row hy (fun e => by injection e with _ e2 _; exact absurd e2 (by decide))
  have hr2 : Blk w2 g 105 (fsRow A.count A.armed A.left pv A.room A.created bn bs (.slice sa vs.length sc)) := Blk.of (hsame g HM1.out.row.lt hgne) HM1.out.row
  have f8 := hr2.frozen 8
  have c8' := hr2.cell (i := 8) rfl
  have hS : ∀ k, S k → k < w1.heap.size → True := fun _ _ _ => trivial
  have hgsz := hg2.size
  have hsa : Keep S w1 w2 := ⟨hg2.os, hg2.tape, hg2.output, by omega, fun k hk hS => hsame k hk fun x hx e => hS (by rw [e]; exact HM1.out.sinceS x hx)⟩
  have HFIN : Hid (FsM (w2.setCell ⟨g, 8, none⟩ (.slice va (vs.length + 1) vc)) g (grow S w1 w2) { A with now := c.ap A.now, since := A.since ++ [c] } pv bn bs (.slice va (vs.length + 1) vc) (vs ++ [.func (.func fn) #[] cap]) dv) := by
    have hset : ∀ k, k ≠ g → (w2.setCell ⟨g, 8, none⟩ (.slice va (vs.length + 1) vc)).heap[k]? = w2.heap[k]? := fun k hk => heap_setCell_other w2 ⟨g, 8, none⟩ k _ hk
    refine HM1.out.more (A := { A with now := c.ap A.now }) (c := c) (fun k hk hkg hks => (hset k hkg).trans (hsame k hk hks)) (fun k hk => .inl hk) (hr2.set 8 _) ?_ ?_ ?_
    · rw [List.length_append]
      refine ownsRow_to ho2 fun k cur e _ => hset k (kind_ne e hr2 (fun e => by injection e with _ e2 _; exact absurd e2 (by decide)))
    · intro k hk
      rcases hloc with h | h
      · exact .inl (HM1.out.sinceS k (by rw [← h]; exact hk))
      · rw [hk] at h
        obtain rfl := Option.some.inj h
        refine .inr ⟨by simp, ?_⟩
        rcases ho2.2 with ⟨hv, _⟩ | ⟨y, cap', cur, hv, _, hy, _⟩
        · rw [hv] at hk; cases hk
        · rw [hv] at hk; cases hk; exact heap_lt hy
    · refine HCL.out.to (fun k hk => .inl hk) fun k cs hk _ => ?_
      have hks : ∀ x, (Value.slice sa vs.length sc).ownBlock = some x → ∃ cur, w1.heap[x]? = some (.cells cur 177 (0, 0)) := by
        intro x hx
        rcases HM1.out.since.2 with ⟨hv, _⟩ | ⟨y, cap', cur, hv, _, hy, _⟩
        · rw [hv] at hx; cases hx
        · rw [hv] at hx; cases hx; exact ⟨cur, hy⟩
      rcases hk with hk | hk
      · exact (hset k (kind_ne hk HM1.out.row (fun e => by injection e with _ e2 _; exact absurd e2 (by decide)))).trans (hsame k (heap_lt hk) fun x hx => by obtain ⟨cur, hcur⟩ := hks x hx; exact kind_ne hk hcur (fun e => by injection e with _ e2 _; exact absurd e2 (by decide)))
      · exact (hset k (kind_ne hk HM1.out.row (fun e => by injection e with _ e2 _; exact absurd e2 (by decide)))).trans (hsame k (heap_lt hk) fun x hx => by obtain ⟨cur, hcur⟩ := hks x hx; exact kind_ne hk hcur (fun e => by injection e with _ e2 _; exact absurd e2 (by decide)))
  have hKf : Keep S w (w2.setCell ⟨g, 8, none⟩ (.slice va (vs.length + 1) vc)) := (HK.out.trans' hsa).trans' ⟨rfl, rfl, rfl, by simp [World.setCell], fun k hk hS => heap_setCell_other w2 ⟨g, 8, none⟩ k _ (fun e => hS (by rw [e]; exact HM.out.gS))⟩
  have HKF := Lib.hid hKf
  have hszf : (w2.setCell ⟨g, 8, none⟩ (.slice va (vs.length + 1) vc)).heap.size = w2.heap.size := by simp [World.setCell]
  have HG : Hid (∀ k, grow S w1 w2 k → grow S w (w2.setCell ⟨g, 8, none⟩ (.slice va (vs.length + 1) vc)) k) := by
    intro k hk
    rcases hk with hk | hk
    · exact .inl hk
    · exact .inr ⟨Nat.le_trans HK.out.size hk.1, by rw [hszf]; exact hk.2⟩
  clear hKf hsa hS hgne hsame hloc ho2 hg2 hr2 hszf hgsz hz1
  go_wp2_with fail
  go_end0
  exact ⟨rfl, ⟨_, _, _, _, _, _, HFIN.out.to HG.out fun _ _ _ => rfl⟩, HKF.out⟩
end Go.Proofs.YtkdjkmnalkalpaaGreatDoor
namespace Go.Proofs.YtkdjkmnalkalpaaGreatDoor
open Go.RowKit Go.Maps Go.WideMaps
set_option maxRecDepth 100000

theorem grow_left {S : Nat → Prop} {w w' : World} : ∀ k, S k → grow S w w' k := fun _ h => .inl h
theorem Fs.below {w w' : World} {g : Nat} {S : Nat → Prop} {A : FsA} (h : Fs w g S A) (hb : Below w.heap.size w w') : Fs w' g S A := h.to (fun _ k => k) fun k _ hk => hb.block k hk
theorem FsM.below {w w' : World} {g : Nat} {S : Nat → Prop} {A : FsA} {pv : Value} {bn bs : Nat} {sv : Value} {vs : List Value} {dv : Nat → Value} (h : FsM w g S A pv bn bs sv vs dv) (hb : Below w.heap.size w w') : FsM w' g S A pv bn bs sv vs dv :=
  h.to (fun _ k => k) fun k _ hk => hb.block k hk

def noneCode : Option Nat → Int
  | none => 3
  | some _ => 0
def findA (A : FsA) (s : ByteArray) : Option Nat × Int :=
  if nameB s = true then (dget A.now s, noneCode (dget A.now s)) else (none, 7)
set_option maxHeartbeats 2000000 in
theorem find_any (g : Nat) (S : Nat → Prop) (A : FsA) (s : ByteArray) (w : World) (h : Fs w g S A) (hs : s.size ≤ 9223372036854775807) :
    Calls Tryz.prog 101 #[.pointer (some ⟨g, 0, none⟩), .string s] w fun e w' => e = .returned (.tuple #[ptrOf (findA A s).1, .int .i64 (findA A s).2]) ∧ Below w.heap.size w w' := by
  obtain ⟨pv, bn, bs, sv, vs, dv, h⟩ := h
  have HM := Lib.hid h
  clear h
  have hnm := fun (W : World) => named_any W.heap.size [s] (W.alloc (.cells #[.string s] 9)) (Blk.new W 9 [.string s]) (by simp) (fun t ht => by obtain rfl := List.mem_singleton.1 ht; omega)
  have HN : Hid (∀ W : World, Calls Tryz.prog 97 #[.slice (some ⟨W.heap.size, 0, none⟩) 1 1] (W.alloc (.cells #[.string s] 9)) fun e w' => e = .returned (.bool (nameB s)) ∧ Below (W.alloc (.cells #[.string s] 9)).heap.size (W.alloc (.cells #[.string s] 9)) w') := fun W => by
    have := hnm W
    simpa using this
  clear hnm
  cases hnb : nameB s
  · have HR : Hid (findA A s = (none, 7)) := by show _ = _; unfold findA; rw [hnb]; rfl
    rw [hnb] at HN
    rw [HR.out]
    clear hnb
    go_enter Tryz.func101, Tryz.ntmps101
    go_wp2_with fail
    refine (HN.out _).mono ?_; rintro e w1 ⟨rfl, hb⟩
    have hB : Below w.heap.size w w1 := ((Below.refl _ w).alloc (Nat.le_refl _) _).trans (hb.mono (by simp))
    clear hb
    go_wp2_with fail
    go_ret2
    exact ⟨rfl, hB⟩
  · rw [hnb] at HN
    have hH := nameB_size hnb
    have HNB := Lib.hid hnb
    clear hnb
    obtain ⟨x, hx⟩ : ∃ x, dget A.now s = x := ⟨_, rfl⟩
    have HR : Hid (findA A s = (x, noneCode x)) := by
      show _ = _
      unfold findA
      rw [if_pos HNB.out, hx]
    rw [HR.out]
    have HXX := Lib.hid hx
    clear hx
    go_enter Tryz.func101, Tryz.ntmps101
    go_wp2_with fail
    refine (HN.out _).mono ?_; rintro e w1 ⟨rfl, hb⟩
    have hB : Below w.heap.size w w1 := ((Below.refl _ w).alloc (Nat.le_refl _) _).trans (hb.mono (by simp))
    have HM1 := Lib.hid (HM.out.below hB)
    have c6 := HM1.out.row.cell (i := 6) rfl
    have hl := (HM1.out.now.look (s := s) (by unfold maxLen; omega)).1
    rw [HXX.out] at hl
    clear hb
    cases x with
    | none =>
      have hl' : (Instr.lookup 102 (.map (some bn)) (.string s) false).run Tryz.prog w1 = .ok (.pointer none) w1 := hl
      clear hl
      go_wp2_with fail
      go_ret2
      exact ⟨rfl, hB⟩
    | some b =>
      have hl' : (Instr.lookup 102 (.map (some bn)) (.string s) false).run Tryz.prog w1 = .ok (.pointer (some ⟨b, 0, none⟩)) w1 := hl
      clear hl
      go_wp2_with fail
      go_ret2
      exact ⟨rfl, hB⟩

def newA (room : Int) : FsA := ⟨0, false, 0, [], room, 0, .map [], .map [], [], fun _ => none⟩
theorem new_world (w : World) (room : Int) : FsM (((w.alloc (.map #[] 0)).alloc (.map #[] 0)).alloc (.cells (fsRow 0 false 0 (.slice none 0 0) room 0 w.heap.size (w.heap.size + 1) (.slice none 0 0)).toArray 105)) (w.heap.size + 1 + 1)
    (newB w (((w.alloc (.map #[] 0)).alloc (.map #[] 0)).alloc (.cells (fsRow 0 false 0 (.slice none 0 0) room 0 w.heap.size (w.heap.size + 1) (.slice none 0 0)).toArray 105))) (newA room) (.slice none 0 0) w.heap.size (w.heap.size + 1) (.slice none 0 0) [] (fun _ => .slice none 0 0) ∧
    Below w.heap.size w (((w.alloc (.map #[] 0)).alloc (.map #[] 0)).alloc (.cells (fsRow 0 false 0 (.slice none 0 0) room 0 w.heap.size (w.heap.size + 1) (.slice none 0 0)).toArray 105)) := by
  have hB : Below w.heap.size w (((w.alloc (.map #[] 0)).alloc (.map #[] 0)).alloc (.cells (fsRow 0 false 0 (.slice none 0 0) room 0 w.heap.size (w.heap.size + 1) (.slice none 0 0)).toArray 105)) :=
    (((Below.refl _ w).alloc (Nat.le_refl _) _).alloc (by simp) _).alloc (by simp; omega) _
  have hrow := Blk.new ((w.alloc (.map #[] 0)).alloc (.map #[] 0)) 105 (fsRow 0 false 0 (.slice none 0 0) room 0 w.heap.size (w.heap.size + 1) (.slice none 0 0))
  rw [World.size_alloc, World.size_alloc] at hrow
  have h1 : Dir (((w.alloc (.map #[] 0)).alloc (.map #[] 0)).alloc (.cells (fsRow 0 false 0 (.slice none 0 0) room 0 w.heap.size (w.heap.size + 1) (.slice none 0 0)).toArray 105)) w.heap.size (.map []) :=
    Dir.of (((World.ownsMap_made w _ _ _).alloc _).alloc _)
  have h2 : Dir (((w.alloc (.map #[] 0)).alloc (.map #[] 0)).alloc (.cells (fsRow 0 false 0 (.slice none 0 0) room 0 w.heap.size (w.heap.size + 1) (.slice none 0 0)).toArray 105)) (w.heap.size + 1) (.map []) := by
    have := (World.ownsMap_made (w.alloc (.map #[] 0)) Tryz.prog 9 ptrElem).alloc (.cells (fsRow 0 false 0 (.slice none 0 0) room 0 w.heap.size (w.heap.size + 1) (.slice none 0 0)).toArray 105)
    rw [World.size_alloc] at this
    exact Dir.of this
  generalize (((w.alloc (.map #[] 0)).alloc (.map #[] 0)).alloc (.cells (fsRow 0 false 0 (.slice none 0 0) room 0 w.heap.size (w.heap.size + 1) (.slice none 0 0)).toArray 105)) = W at *
  refine ⟨?_, hB⟩
  exact {
    row := hrow
    gS := ⟨by omega, hrow.lt⟩
    plan := .inl ⟨rfl, rfl⟩
    planS := fun k hk => by cases hk
    now := h1
    nS := ⟨Nat.le_refl _, h1.lt⟩
    sure := h2
    sS := ⟨by omega, h2.lt⟩
    ne := by omega
    since := World.ownsRow_nil _ _ _ _
    sinceS := fun k hk => by cases hk
    cloL := rfl
    clo := fun i c h => by cases h
    file := fun b f h => by cases h
    apart := fun b b' _ h => by cases h }
set_option maxHeartbeats 1000000 in
theorem new_any (room : Int) (h1 : 1 ≤ room) (h2 : room ≤ 1048576) (w : World) :
    Calls Tryz.prog 14 #[.int .i64 room] w fun e w' => ∃ g, e = .returned (.tuple #[.pointer (some ⟨g, 0, none⟩), .int .i64 0]) ∧ w.heap.size ≤ g ∧ Fs w' g (newB w w') (newA room) ∧ Below w.heap.size w w' := by
  have hmm := @run_makeMap Tryz.prog
  go_enter Tryz.func14, Tryz.ntmps14
  go_wp2_with fail
  go_ret2
  exact ⟨w.heap.size + 1 + 1, rfl, by omega, ⟨_, _, _, _, _, _, (new_world w room).1⟩, (new_world w room).2⟩
end Go.Proofs.YtkdjkmnalkalpaaGreatDoor
namespace Go.Proofs.YtkdjkmnalkalpaaGreatDoor
open Go.RowKit Go.Maps Go.WideMaps
set_option maxRecDepth 100000

section
variable {w w' w'' : World} {g : Nat} {S T : Nat → Prop} {A : FsA} {pv : Value} {bn bs : Nat} {sv : Value} {vs : List Value} {dv : Nat → Value}
theorem FsM.addFile (h : FsM w g S A pv bn bs sv vs dv) {b : Nat} {num : Int} (hb : Blk w b 180 [.int .i64 num, .slice none 0 0, .int .i64 0]) (hS : S b) :
    FsM w g S { A with file := fun k => if k = b then some ⟨num, [], 0⟩ else A.file k } pv bn bs sv vs (fun k => if k = b then .slice none 0 0 else dv k) := by
  refine { row := h.row, gS := h.gS, plan := h.plan, planS := h.planS, now := h.now, nS := h.nS, sure := h.sure, sS := h.sS, ne := h.ne, since := h.since, sinceS := h.sinceS, cloL := h.cloL, clo := h.clo, file := ?_, apart := ?_ }
  · intro k f hf
    simp only at hf ⊢
    by_cases hk : k = b
    · subst hk
      rw [if_pos rfl] at hf ⊢
      cases hf
      exact ⟨⟨hb, World.ownsRow_nil _ _ _ _⟩, hS, fun _ h => by cases h⟩
    · rw [if_neg hk] at hf ⊢
      exact h.file k f hf
  · intro k k' hne h1 h2 x hx
    simp only at h1 h2 hx ⊢
    by_cases hk : k = b
    · rw [if_pos hk] at hx; cases hx
    · rw [if_neg hk] at hx h1
      by_cases hk' : k' = b
      · rw [if_pos hk']; simp [Value.ownBlock]
      · rw [if_neg hk'] at h2 ⊢
        exact h.apart k k' hne h1 h2 x hx
theorem FsM.mono (h : FsM w g S A pv bn bs sv vs dv) (hT : ∀ k, S k → T k) : FsM w g T A pv bn bs sv vs dv := h.to hT fun _ _ _ => rfl
end

theorem wpList_len_dir {w : World} {ops : Array Oper} {rest : List Oper} {o : Oper} {a : Act} {Q : Exit → Act → World → Prop} (hg : o.guard = none) (m : Operand) (hop : o.op = Op.call { callee := Callee.builtin Builtin.len, args := #[m], argTypes := #[102] })
    (b : Nat) (D : DataW Unit) (sz : Nat) (hm : a.eval m = .map (some b)) (hd : Hid (Dir w b D ∧ Maps.size D = sz)) (hK : wpList Tryz.prog ops Q rest (a.put o.dst (.int .i64 sz)) w) : wpList Tryz.prog ops Q (o :: rest) a w := by
  obtain ⟨hd, hs⟩ := hd.out
  exact wpList_len_own _ hg m 102 hop 9 173 Tryz.underlying102 _ b _ D hm hd (by rw [hs]; exact hK)
def createA (A : FsA) (s : ByteArray) (b : Nat) : FsA × Int :=
  if nameB s = true then
    if (dget A.now s).isSome = true then (A, 4) else
    if 64 ≤ Maps.size A.now then (A, 8) else
    if (stepA A).2.2 = 0 then
      ({ (stepA A).1 with file := fun k => if k = b then some ⟨(stepA A).1.created, [], 0⟩ else (stepA A).1.file k, now := (Chg.create s b).ap (stepA A).1.now, since := (stepA A).1.since ++ [.create s b], created := (stepA A).1.created + 1 }, 0)
    else ((stepA A).1, (stepA A).2.2)
  else (A, 7)
theorem stepA_same (A : FsA) : (stepA A).1.now = A.now ∧ (stepA A).1.sure = A.sure ∧ (stepA A).1.since = A.since ∧ (stepA A).1.file = A.file ∧ (stepA A).1.created = A.created ∧ (stepA A).1.room = A.room := by
  unfold stepA; split <;> exact ⟨rfl, rfl, rfl, rfl, rfl, rfl⟩
theorem Fs.ge {w : World} {g : Nat} {S : Nat → Prop} {A : FsA} {b : Nat} (h : Fs w g S A) (hb : w.heap.size ≤ b) : A.file b = none := by
  obtain ⟨pv, bn, bs, sv, vs, dv, h⟩ := h
  cases hf : A.file b with
  | none => rfl
  | some f => have := (h.file b f hf).1.1.lt; omega

theorem named_one (s : ByteArray) (hs : s.size ≤ 9223372036854775807) (W : World) : Calls Tryz.prog 97 #[.slice (some ⟨W.heap.size, 0, none⟩) 1 1] (W.alloc (.cells #[.string s] 9)) fun e w' => e = .returned (.bool (nameB s)) ∧ Below W.heap.size W w' := by
  have := named_any W.heap.size [s] (W.alloc (.cells #[.string s] 9)) (Blk.new W 9 [.string s]) (by simp) (fun t ht => by obtain rfl := List.mem_singleton.1 ht; omega)
  refine (show Calls Tryz.prog 97 #[.slice (some ⟨W.heap.size, 0, none⟩) 1 1] (W.alloc (.cells #[.string s] 9)) fun e w' => e = .returned (.bool (nameB s)) ∧ Below (W.alloc (.cells #[.string s] 9)).heap.size (W.alloc (.cells #[.string s] 9)) w' from by simpa using this).mono ?_
  rintro e w' ⟨he, hb⟩
  exact ⟨he, ((Below.refl _ W).alloc (Nat.le_refl _) _).trans (hb.mono (by simp))⟩

set_option maxRecDepth 100000 in
set_option maxHeartbeats 4000000 in
theorem create_any (g : Nat) (S : Nat → Prop) (A : FsA) (s : ByteArray) (w : World) (h : Fs w g S A) (hn : Num A) (hs : s.size ≤ 9223372036854775807) (hcr : 0 ≤ A.created ∧ A.created < 4611686018427387904) (hsz : Maps.size A.now < 100000) (hl : A.since.length < 100000) :
    Calls Tryz.prog 34 #[.pointer (some ⟨g, 0, none⟩), .string s] w fun e w' => ∃ b, w.heap.size ≤ b ∧ e = .returned (.int .i64 (createA A s b).2) ∧ Fs w' g (grow S w w') (createA A s b).1 ∧ Keep S w w' := by
  have HF := Lib.hid h
  have HN := Lib.hid (named_one s hs)
  have HNUM := Lib.hid hn
  have HCR := Lib.hid hcr
  have HSZ := Lib.hid hsz
  have HSL := Lib.hid hl
  clear h hn hcr hsz hl
  cases hnb : nameB s
  · have HR : Hid (∀ b, createA A s b = (A, 7)) := fun b => by unfold createA; rw [hnb]; rfl
    rw [hnb] at HN
    clear hnb
    go_enter Tryz.func34, Tryz.ntmps34
    go_wp2_with fail
    refine (HN.out _).mono ?_; rintro e w1 ⟨rfl, hb⟩
    go_wp2_with fail
    go_ret
    exact ⟨w.heap.size, Nat.le_refl _, ret_int (by rw [HR.out]), by rw [HR.out]; exact (HF.out.below hb).to grow_left fun _ _ _ => rfl, Keep.of_below hb⟩
  · rw [hnb] at HN
    have hH := nameB_size hnb
    have HNB := Lib.hid hnb
    clear hnb
    go_enter Tryz.func34, Tryz.ntmps34
    go_wp2_with fail
    refine (HN.out _).mono ?_; rintro e w1 ⟨rfl, hb1⟩
    have HB1 := Lib.hid hb1
    have hF1 := HF.out.below hb1
    have HF1 := Lib.hid hF1
    obtain ⟨pv, bn, bs, sv, vs, dv, hM1⟩ := hF1
    have c6 := hM1.row.cell (i := 6) rfl
    have hl := (hM1.now.look (s := s) (by unfold maxLen; omega)).1
    have HD1 := Lib.hid hM1.now
    clear hb1 hM1
    cases hx : dget A.now s with
    | some b0 =>
      have HR : Hid (∀ b, createA A s b = (A, 4)) := fun b => by unfold createA; rw [if_pos HNB.out, hx]; rfl
      have hl' : (Instr.lookup 102 (.map (some bn)) (.string s) false).run Tryz.prog w1 = .ok (.pointer (some ⟨b0, 0, none⟩)) w1 := by rw [hx] at hl; exact hl
      clear hl hx
      go_wp2_with fail
      go_ret
      exact ⟨w.heap.size, Nat.le_refl _, ret_int (by rw [HR.out]), by rw [HR.out]; exact HF1.out.to grow_left fun _ _ _ => rfl, Keep.of_below HB1.out⟩
    | none =>
      have HXN := Lib.hid hx
      have hl' : (Instr.lookup 102 (.map (some bn)) (.string s) false).run Tryz.prog w1 = .ok (.pointer none) w1 := by rw [hx] at hl; exact hl
      clear hl hx
      obtain ⟨sz, hsz⟩ : ∃ sz, Maps.size A.now = sz := ⟨_, rfl⟩
      have HLEN : Hid (Dir w1 bn A.now ∧ Maps.size A.now = sz) := ⟨HD1.out, hsz⟩
      have HSE := Lib.hid hsz
      clear hsz
      by_cases h64 : 64 ≤ sz
      · have HR : Hid (∀ b, createA A s b = (A, 8)) := fun b => by
          unfold createA
          rw [if_pos HNB.out, if_neg (by rw [HXN.out]; simp), if_pos (by rw [HSE.out]; exact h64)]
        have h64b : decide ((64 : Int) ≤ (sz : Int)) = true := decide_eq_true (by omega)
        clear h64
        go_wp2_with (first
          | (at_len; refine wpList_len_dir rfl _ rfl bn A.now sz rfl HLEN ?_))
        go_ret
        exact ⟨w.heap.size, Nat.le_refl _, ret_int (by rw [HR.out]), by rw [HR.out]; exact HF1.out.to grow_left fun _ _ _ => rfl, Keep.of_below HB1.out⟩
      · have h64' : (sz : Int) < 64 := by omega
        go_wp2_with (first
          | (at_len; refine wpList_len_dir rfl _ rfl bn A.now sz rfl HLEN ?_))
        refine (step_any g S A w1 HF1.out HNUM.out).mono ?_; rintro e w2 ⟨rfl, hF2, hb2⟩
        have hgS : S g := by obtain ⟨_, _, _, _, _, _, hM⟩ := HF.out; exact hM.gS
        have HK2 := Lib.hid ((Keep.of_below HB1.out : Keep S w w1).trans' (Keep.of_but hb2 hgS))
        have HF2 := Lib.hid hF2
        have HSAME := Lib.hid (stepA_same A)
        have HGS := Lib.hid hgS
        clear hF2 hb2 hl' c6 hgS
        by_cases he : (stepA A).2.2 = 0
        · have HR : Hid (∀ b, createA A s b = ({ (stepA A).1 with file := fun k => if k = b then some ⟨(stepA A).1.created, [], 0⟩ else (stepA A).1.file k, now := (Chg.create s b).ap (stepA A).1.now, since := (stepA A).1.since ++ [.create s b], created := (stepA A).1.created + 1 }, 0)) := fun b => by
            unfold createA
            rw [if_pos HNB.out, if_neg (by rw [HXN.out]; simp), if_neg (by rw [HSE.out]; exact h64), if_pos he]
          generalize (stepA A) = st at *
          obtain ⟨A2, k2, e2⟩ := st
          simp only at he HR HF2 HSAME
          subst he
          have hF2 := HF2.out
          obtain ⟨pv2, bn2, bs2, sv2, vs2, dv2, hM2⟩ := hF2
          have c5 := hM2.row.cell (i := 5) rfl
          have HM2 := Lib.hid hM2
          clear hM2
          have hcr2 : 0 ≤ A2.created ∧ A2.created < 4611686018427387904 := by rw [HSAME.out.2.2.2.2.1]; exact HCR.out
          have hcrw : IntKind.i64.wrap (A2.created + 1) = A2.created + 1 := IntWalk.i64_in _ (by omega)
          have HCRW := Lib.hid hcrw
          have HCR2 := Lib.hid hcr2
          clear hcrw hcr2
          go_wp2_with fail
          have hlt2 : w.heap.size ≤ w2.heap.size := HK2.out.size
          refine calls_world fun w3 hw3 => ?_
          have hB3 : Below w2.heap.size w2 w3 := by rw [hw3]; exact (Below.refl _ _).alloc (Nat.le_refl _) _
          have hb3 : Blk w3 w2.heap.size 180 [.int .i64 A2.created, .slice none 0 0, .int .i64 0] := by rw [hw3]; exact Blk.new w2 _ _
          clear hw3
          have HF3 := Lib.hid (((HM2.out.below hB3).mono (T := grow S w2 w3) grow_left).addFile hb3 (.inr ⟨Nat.le_refl _, hb3.lt⟩))
          have HB3 := Lib.hid hB3
          clear hb3 hB3
          refine (creation_any s w2.heap.size w3 hH.2).mono ?_; rintro e w4 ⟨v, rfl, hclo, hB4⟩
          have hS34 : ∀ k, grow S w2 w3 k → grow S w2 w4 k := fun k hk => hk.elim .inl fun h => .inr ⟨h.1, Nat.lt_of_lt_of_le h.2 hB4.size⟩
          have hF4 : Fs w4 g (grow S w2 w4) { A2 with file := fun k => if k = w2.heap.size then some ⟨A2.created, [], 0⟩ else A2.file k } := ⟨_, _, _, _, _, _, (HF3.out.below hB4).mono hS34⟩
          have hclo4 : Clo w4 (grow S w2 w4) v (.create s w2.heap.size) := hclo.to (fun k hk => .inr ⟨Nat.le_trans HB3.out.size hk.1, hk.2⟩) fun _ _ _ _ => rfl
          have hB24 := HB3.out.trans (hB4.mono HB3.out.size)
          have hch := change_any g (grow S w2 w4) _ v (.create s w2.heap.size) w4 hF4 hclo4 (by show Maps.size A2.now < _; rw [HSAME.out.1]; have := HSZ.out; omega) (by show A2.since.length < _; rw [HSAME.out.2.2.1]; have := HSL.out; omega)
          have HCH := Lib.hid hch
          have HB24 := Lib.hid hB24
          clear hch hB24 hclo4 hF4 hS34 hB4 hclo
          go_wp2_with fail
          refine HCH.out.mono ?_; rintro e w5 ⟨rfl, hF5, hK5⟩
          have hg5 : grow (grow S w2 w4) w4 w5 = grow S w2 w5 := grow_trans S HB24.out.size hK5.size
          rw [hg5] at hF5
          obtain ⟨pv5, bn5, bs5, sv5, vs5, dv5, hM5⟩ := hF5
          have c5' := hM5.row.cell (i := 5) rfl
          have f5' := hM5.row.frozen 5
          have HM5 := Lib.hid hM5
          have hK : Keep S w w5 := HK2.out.trans' (((Keep.of_below HB24.out : Keep S w2 w4)).trans hK5)
          have HKK := Lib.hid (hK.trans' (w'' := w5.setCell ⟨g, 5, none⟩ (.int .i64 (A2.created + 1))) ⟨rfl, rfl, rfl, by simp [World.setCell], fun k hk hS => heap_setCell_other w5 ⟨g, 5, none⟩ k _ (fun e => hS (by rw [e]; exact HGS.out))⟩)
          have hbut : But w5.heap.size g w5 (w5.setCell ⟨g, 5, none⟩ (.int .i64 (A2.created + 1))) := (But.refl _ g _).setCell (p := ⟨g, 5, none⟩) (.inr rfl) _
          have HFIN := Lib.hid (hM5.head hbut A2.count A2.armed A2.left (A2.created + 1) A2.plan pv5 (hM5.row.set 5 _) (hM5.plan.to fun k cur e _ => hbut.block k (heap_lt e) (kind_ne e hM5.row (fun e => by injection e with _ e2 _; exact absurd e2 (by decide)))) hM5.planS)
          have hcrw := HCRW.out
          have HZ5 : Hid (w.heap.size ≤ w2.heap.size ∧ (w5.setCell ⟨g, 5, none⟩ (.int .i64 (A2.created + 1))).heap.size = w5.heap.size) := ⟨hlt2, by simp [World.setCell]⟩
          clear hM5 hK hbut hK5 hg5 c5 hlt2
          go_wp2_with fail
          go_ret
          refine ⟨w2.heap.size, HZ5.out.1, ret_int (by rw [HR.out]), ?_, HKK.out⟩
          rw [HR.out]
          refine Fs.to (S := grow S w2 w5) ⟨_, _, _, _, _, _, HFIN.out⟩ (fun k hk => hk.elim .inl fun h => .inr ⟨Nat.le_trans HZ5.out.1 h.1, by rw [HZ5.out.2]; exact h.2⟩) fun _ _ _ => rfl
        · have HR : Hid (∀ b, createA A s b = ((stepA A).1, (stepA A).2.2)) := fun b => by
            unfold createA
            rw [if_pos HNB.out, if_neg (by rw [HXN.out]; simp), if_neg (by rw [HSE.out]; exact h64), if_neg he]
          have he' : ((stepA A).2.2 == 0) = false := by simpa using he
          generalize (stepA A) = st at *
          obtain ⟨A2, k2, e2⟩ := st
          simp only at he he'
          clear he
          go_wp2_with fail
          go_ret
          exact ⟨w.heap.size, Nat.le_refl _, ret_int (by rw [HR.out]), by rw [HR.out]; exact HF2.out.to grow_left fun _ _ _ => rfl, HK2.out⟩
end Go.Proofs.YtkdjkmnalkalpaaGreatDoor
