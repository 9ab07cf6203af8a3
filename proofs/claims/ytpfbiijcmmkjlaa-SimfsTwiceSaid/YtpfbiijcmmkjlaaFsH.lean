/- Package simfs: 'Remove', 'Rename', 'Steps', 'Arm'. -/
import Derived.Test.YtpfbiijcmmkjlaaFsG
namespace Go.Proofs.Ytpfbiijcmmkjlaa
open Go.RowKit Go.Maps Go.WideMaps

def changeA (A : FsA) (c : Chg) : FsA := { A with now := c.ap A.now, since := A.since ++ [c] }
/-- A step, and then f, if it went well. -/
def doneA (A : FsA) (f : FsA → FsA) : FsA × Int := if (stepA A).2.2 = 0 then (f (stepA A).1, 0) else ((stepA A).1, (stepA A).2.2)
def removeA (A : FsA) (s : ByteArray) : FsA × Int := if (findA A s).2 = 0 then doneA A (fun B => changeA B (.remove s)) else (A, (findA A s).2)
def renameA (A : FsA) (a b : ByteArray) : FsA × Int :=
  if nameB a = true ∧ nameB b = true then
    if dget A.now a = none then (A, 3) else doneA A (fun B => changeA B (.rename a b))
  else (A, 7)
/-- Room for one more change. -/
structure Few (A : FsA) : Prop where
  now : Maps.size A.now < 1000
  since : A.since.length < 1000
theorem Few.step {A : FsA} (h : Few A) : Few (stepA A).1 := ⟨by rw [(stepA_same A).1]; exact h.now, by rw [(stepA_same A).2.2.1]; exact h.since⟩

/-- A change made and done. -/
theorem made_done {w w1 w2 : World} {g : Nat} {S : Nat → Prop} {A : FsA} {v : Value} {c : Chg} (_h : Fs w g S A) (_hc : Clo w1 (newB w w1) v c) (hb : Below w.heap.size w w1)
    (h2 : Fs w2 g (grow (grow S w w1) w1 w2) (changeA A c)) (hk : Keep (grow S w w1) w1 w2) : Fs w2 g (grow S w w2) (changeA A c) ∧ Keep S w w2 := by
  rw [grow_trans S hb.size hk.size] at h2
  exact ⟨h2, (Keep.of_below hb : Keep S w w1).trans hk⟩
theorem made_any {w w1 : World} {g : Nat} {S : Nat → Prop} {A : FsA} {v : Value} {c : Chg} (h : Fs w g S A) (hf : Few A) (hc : Clo w1 (newB w w1) v c) (hb : Below w.heap.size w w1) :
    Calls Try.prog 43 #[.pointer (some ⟨g, 0, none⟩), v] w1 fun e w2 => e = .returned (.tuple #[]) ∧ Fs w2 g (grow S w w2) (changeA A c) ∧ Keep S w w2 :=
  (change_any g (grow S w w1) A v c w1 ((h.below hb).to grow_left fun _ _ _ => rfl) (hc.to (fun _ hk => .inr hk) fun _ _ _ _ => rfl) (by have := hf.now; omega) (by have := hf.since; omega)).mono fun e w2 ⟨he, h2, hk⟩ =>
    ⟨he, made_done h hc hb h2 hk⟩
theorem Fs.gS {w : World} {g : Nat} {S : Nat → Prop} {A : FsA} (h : Fs w g S A) : S g := by obtain ⟨_, _, _, _, _, _, hM⟩ := h; exact hM.gS
theorem grow_two {S : Nat → Prop} {w w1 w2 : World} {g : Nat} {A : FsA} (h : Fs w2 g (grow S w1 w2) A) (h1 : w.heap.size ≤ w1.heap.size) : Fs w2 g (grow S w w2) A :=
  h.to (fun k hk => hk.elim .inl fun h => .inr ⟨by omega, h.2⟩) fun _ _ _ => rfl

set_option maxRecDepth 100000 in
set_option maxHeartbeats 2000000 in
theorem remove_any (g : Nat) (S : Nat → Prop) (A : FsA) (s : ByteArray) (w : World) (h : Fs w g S A) (hn : Num A) (hf : Few A) (hs : s.size ≤ 9223372036854775807) :
    Calls Try.prog 25 #[.pointer (some ⟨g, 0, none⟩), .string s] w fun e w' => e = .returned (.int .i64 (removeA A s).2) ∧ Fs w' g (grow S w w') (removeA A s).1 ∧ Keep S w w' := by
  have HF := Lib.hid h
  have HNUM := Lib.hid hn
  have HFEW := Lib.hid hf
  have HFI := Lib.hid (find_any g S A s w h hs)
  clear h hn hf
  go_enter Try.func25, Try.ntmps25
  by_cases hc : (findA A s).2 = 0
  · have hnm : nameB s = true := by
      apply Decidable.byContradiction
      intro hno
      unfold findA at hc
      rw [if_neg hno] at hc; cases hc
    have hsz := (nameB_size hnm).2
    have HR : Hid (removeA A s = doneA A (fun B => changeA B (.remove s))) := by show _ = _; unfold removeA; rw [if_pos hc]
    generalize findA A s = fa at *
    obtain ⟨fx, fc⟩ := fa
    simp only at hc HFI
    subst hc
    clear hnm
    go_wp2_with fail
    refine HFI.out.mono ?_; rintro e w1 ⟨rfl, hb1⟩
    have HF1 := Lib.hid (HF.out.below hb1)
    have HB1 := Lib.hid hb1
    clear hb1
    go_wp2_with fail
    refine (step_any g S A w1 HF1.out HNUM.out).mono ?_; rintro e w2 ⟨rfl, hF2, hb2⟩
    have HK2 := Lib.hid ((Keep.of_below HB1.out : Keep S w w1).trans' (Keep.of_but hb2 HF.out.gS))
    have HF2 := Lib.hid hF2
    have HFEW2 := Lib.hid HFEW.out.step
    clear hF2 hb2
    by_cases he : (stepA A).2.2 = 0
    · have HD : Hid (doneA A (fun B => changeA B (.remove s)) = (changeA (stepA A).1 (.remove s), 0)) := by show _ = _; unfold doneA; rw [if_pos he]
      generalize stepA A = st at *
      obtain ⟨A2, k2, e2⟩ := st
      simp only at he HD HF2 HFEW2
      subst he
      go_wp2_with fail
      refine (removal_any s w2 hsz).mono ?_; rintro e w3 ⟨v, rfl, hclo, hB3⟩
      have HM := Lib.hid (made_any HF2.out HFEW2.out hclo hB3)
      clear hclo hB3
      go_wp2_with fail
      refine HM.out.mono ?_; rintro e w4 ⟨rfl, hF4, hK4⟩
      have HF4 := Lib.hid hF4
      have HK4 := Lib.hid hK4
      clear hF4 hK4
      go_wp2_with fail
      go_ret
      exact ⟨ret_int (by rw [HR.out, HD.out]), by rw [HR.out, HD.out]; exact grow_two HF4.out HK2.out.size, HK2.out.trans' HK4.out⟩
    · have HD : Hid (doneA A (fun B => changeA B (.remove s)) = ((stepA A).1, (stepA A).2.2)) := by show _ = _; unfold doneA; rw [if_neg he]
      have he' : ((stepA A).2.2 == 0) = false := by simpa using he
      generalize stepA A = st at *
      obtain ⟨A2, k2, e2⟩ := st
      simp only at he he' HD HF2 HFEW2
      clear he
      go_wp2_with fail
      go_ret
      exact ⟨ret_int (by rw [HR.out, HD.out]), by rw [HR.out, HD.out]; exact HF2.out.to grow_left fun _ _ _ => rfl, HK2.out⟩
  · have HR : Hid (removeA A s = (A, (findA A s).2)) := by show _ = _; unfold removeA; rw [if_neg hc]
    have hc' : ((findA A s).2 == 0) = false := by simpa using hc
    generalize findA A s = fa at *
    obtain ⟨fx, fc⟩ := fa
    simp only at hc hc' HFI HR
    clear hc
    go_wp2_with fail
    refine HFI.out.mono ?_; rintro e w1 ⟨rfl, hb1⟩
    have HF1 := Lib.hid (HF.out.below hb1)
    have HB1 := Lib.hid hb1
    clear hb1
    go_wp2_with fail
    go_ret
    exact ⟨ret_int (by rw [HR.out]), by rw [HR.out]; exact HF1.out.to grow_left fun _ _ _ => rfl, Keep.of_below HB1.out⟩

set_option maxRecDepth 100000 in
set_option maxHeartbeats 4000000 in
theorem rename_any (g : Nat) (S : Nat → Prop) (A : FsA) (a b : ByteArray) (w : World) (h : Fs w g S A) (hn : Num A) (hf : Few A) (ha : a.size ≤ 9223372036854775807) (hb : b.size ≤ 9223372036854775807) :
    Calls Try.prog 23 #[.pointer (some ⟨g, 0, none⟩), .string a, .string b] w fun e w' => e = .returned (.int .i64 (renameA A a b).2) ∧ Fs w' g (grow S w w') (renameA A a b).1 ∧ Keep S w w' := by
  have HF := Lib.hid h
  have HNUM := Lib.hid hn
  have HFEW := Lib.hid hf
  have hnm := named_any w.heap.size [a, b] (w.alloc (.cells #[.string a, .string b] 9)) (Blk.new w 9 [.string a, .string b]) (by simp) (fun t ht => by
    rcases List.mem_cons.1 ht with rfl | ht
    · omega
    · obtain rfl := List.mem_singleton.1 ht; omega)
  have HN : Hid (Calls Try.prog 41 #[.slice (some ⟨w.heap.size, 0, none⟩) 2 2] (w.alloc (.cells #[.string a, .string b] 9)) fun e w' => e = .returned (.bool (nameB a && nameB b)) ∧ Below (w.alloc (.cells #[.string a, .string b] 9)).heap.size (w.alloc (.cells #[.string a, .string b] 9)) w') := by
    have := hnm; simp only [List.all_cons, List.all_nil, Bool.and_true, List.length_cons, List.length_nil, Nat.zero_add] at this; exact this
  clear h hn hf hnm
  go_enter Try.func23, Try.ntmps23
  cases hab : (nameB a && nameB b)
  · have HR : Hid (renameA A a b = (A, 7)) := by
      show _ = _; unfold renameA
      rw [if_neg (fun h => by rw [h.1, h.2] at hab; cases hab)]
    rw [hab] at HN
    clear hab
    go_wp2_with fail
    refine HN.out.mono ?_; rintro e w1 ⟨rfl, hb1⟩
    have hB : Below w.heap.size w w1 := ((Below.refl _ w).alloc (Nat.le_refl _) _).trans (hb1.mono (by simp))
    clear hb1
    go_wp2_with fail
    go_ret
    exact ⟨ret_int (by rw [HR.out]), by rw [HR.out]; exact (HF.out.below hB).to grow_left fun _ _ _ => rfl, Keep.of_below hB⟩
  · have hand : nameB a = true ∧ nameB b = true := by simpa using hab
    have hsa := (nameB_size hand.1).2
    have hsb := (nameB_size hand.2).2
    have HAND := Lib.hid hand
    rw [hab] at HN
    clear hab hand
    go_wp2_with fail
    refine HN.out.mono ?_; rintro e w1 ⟨rfl, hb1⟩
    have hB : Below w.heap.size w w1 := ((Below.refl _ w).alloc (Nat.le_refl _) _).trans (hb1.mono (by simp))
    have hF1 := HF.out.below hB
    have HF1 := Lib.hid hF1
    have HB1 := Lib.hid hB
    obtain ⟨pv, bn, bs, sv, vs, dv, hM1⟩ := hF1
    have c6 := hM1.row.cell (i := 6) rfl
    have hl := (hM1.now.look (s := a) (by unfold maxLen; omega)).1
    clear hb1 hM1 hB
    cases hx : dget A.now a with
    | none =>
      have HR : Hid (renameA A a b = (A, 3)) := by show _ = _; unfold renameA; rw [if_pos HAND.out, if_pos hx]
      have hl' : (Instr.lookup 54 (.map (some bn)) (.string a) false).run Try.prog w1 = .ok (.pointer none) w1 := by rw [hx] at hl; exact hl
      clear hl hx
      go_wp2_with fail
      go_ret
      exact ⟨ret_int (by rw [HR.out]), by rw [HR.out]; exact HF1.out.to grow_left fun _ _ _ => rfl, Keep.of_below HB1.out⟩
    | some b0 =>
      have HR : Hid (renameA A a b = doneA A (fun B => changeA B (.rename a b))) := by show _ = _; unfold renameA; rw [if_pos HAND.out, if_neg (by rw [hx]; simp)]
      have hl' : (Instr.lookup 54 (.map (some bn)) (.string a) false).run Try.prog w1 = .ok (.pointer (some ⟨b0, 0, none⟩)) w1 := by rw [hx] at hl; exact hl
      clear hl hx
      go_wp2_with fail
      refine (step_any g S A w1 HF1.out HNUM.out).mono ?_; rintro e w2 ⟨rfl, hF2, hb2⟩
      have HK2 := Lib.hid ((Keep.of_below HB1.out : Keep S w w1).trans' (Keep.of_but hb2 HF.out.gS))
      have HF2 := Lib.hid hF2
      have HFEW2 := Lib.hid HFEW.out.step
      clear hF2 hb2 hl' c6
      by_cases he : (stepA A).2.2 = 0
      · have HD : Hid (doneA A (fun B => changeA B (.rename a b)) = (changeA (stepA A).1 (.rename a b), 0)) := by show _ = _; unfold doneA; rw [if_pos he]
        generalize stepA A = st at *
        obtain ⟨A2, k2, e2⟩ := st
        simp only at he HD HF2 HFEW2
        subst he
        go_wp2_with fail
        refine (renaming_any a b w2 hsa hsb).mono ?_; rintro e w3 ⟨v, rfl, hclo, hB3⟩
        have HM := Lib.hid (made_any HF2.out HFEW2.out hclo hB3)
        clear hclo hB3
        go_wp2_with fail
        refine HM.out.mono ?_; rintro e w4 ⟨rfl, hF4, hK4⟩
        have HF4 := Lib.hid hF4
        have HK4 := Lib.hid hK4
        clear hF4 hK4
        go_wp2_with fail
        go_ret
        exact ⟨ret_int (by rw [HR.out, HD.out]), by rw [HR.out, HD.out]; exact grow_two HF4.out HK2.out.size, HK2.out.trans' HK4.out⟩
      · have HD : Hid (doneA A (fun B => changeA B (.rename a b)) = ((stepA A).1, (stepA A).2.2)) := by show _ = _; unfold doneA; rw [if_neg he]
        have he' : ((stepA A).2.2 == 0) = false := by simpa using he
        generalize stepA A = st at *
        obtain ⟨A2, k2, e2⟩ := st
        simp only at he he' HD HF2 HFEW2
        clear he
        go_wp2_with fail
        go_ret
        exact ⟨ret_int (by rw [HR.out, HD.out]), by rw [HR.out, HD.out]; exact HF2.out.to grow_left fun _ _ _ => rfl, HK2.out⟩

set_option maxHeartbeats 400000 in
theorem steps_any (g : Nat) (S : Nat → Prop) (A : FsA) (w : World) (h : Fs w g S A) :
    Calls Try.prog 32 #[.pointer (some ⟨g, 0, none⟩)] w fun e w' => e = .returned (.int .i64 A.count) ∧ w = w' := by
  obtain ⟨pv, bn, bs, sv, vs, dv, hM⟩ := h
  have c0 := hM.row.cell (i := 0) rfl
  clear hM
  go_enter Try.func32, Try.ntmps32
  go_wp2
  go_ret
  exact ⟨rfl, rfl⟩
def armA (A : FsA) (n : Int) : FsA × Int := if n < 0 then (A, 1) else if deadB A.armed A.left = true then (A, 22) else ({ A with armed := true, left := n }, 0)
set_option maxRecDepth 100000 in
set_option maxHeartbeats 1000000 in
theorem arm_any (g : Nat) (S : Nat → Prop) (A : FsA) (n : Int) (w : World) (h : Fs w g S A) :
    Calls Try.prog 27 #[.pointer (some ⟨g, 0, none⟩), .int .i64 n] w fun e w' => e = .returned (.int .i64 (armA A n).2) ∧ Fs w' g S (armA A n).1 ∧ But w.heap.size g w w' := by
  have HF := Lib.hid h
  obtain ⟨pv, bn, bs, sv, vs, dv, hM⟩ := h
  have f1 := hM.row.frozen 1
  have f2 := hM.row.frozen 2
  have c1 := hM.row.cell (i := 1) rfl
  have c2 := hM.row.cell (i := 2) rfl
  have HD := Lib.hid (dead_any g A.count A.armed A.left _ w hM.row)
  have hset := (hM.row.set 1 (.bool true)).set 2 (.int .i64 n)
  have hbut : But w.heap.size g w ((w.setCell ⟨g, 1, none⟩ (.bool true)).setCell ⟨g, 2, none⟩ (.int .i64 n)) := ((But.refl _ g _).setCell (p := ⟨g, 1, none⟩) (.inr rfl) _).setCell (p := ⟨g, 2, none⟩) (.inr rfl) _
  have HFIN := Lib.hid (hM.head hbut A.count true n A.created A.plan pv hset (hM.plan.to fun k cur e _ => hbut.block k (heap_lt e) (kind_ne e hM.row (fun e => by injection e with _ e2 _; exact absurd e2 (by decide)))) hM.planS)
  have HBUT := Lib.hid hbut
  clear hM hset hbut
  by_cases hneg : n < 0
  · have HR : Hid (armA A n = (A, 1)) := by show _ = _; unfold armA; rw [if_pos hneg]
    go_enter Try.func27, Try.ntmps27
    go_wp2
    go_ret
    exact ⟨ret_int (by rw [HR.out]), by rw [HR.out]; exact HF.out, But.refl _ _ _⟩
  · cases hd : deadB A.armed A.left
    · have HR : Hid (armA A n = ({ A with armed := true, left := n }, 0)) := by show _ = _; unfold armA; rw [if_neg hneg, hd]; rfl
      rw [hd] at HD
      clear hd
      go_enter Try.func27, Try.ntmps27
      go_wp2_with fail
      refine HD.out.mono ?_; rintro e w1 ⟨rfl, rfl⟩
      go_wp2
      go_ret
      exact ⟨ret_int (by rw [HR.out]), by rw [HR.out]; exact ⟨_, _, _, _, _, _, HFIN.out⟩, HBUT.out⟩
    · have HR : Hid (armA A n = (A, 22)) := by show _ = _; unfold armA; rw [if_neg hneg, if_pos hd]
      rw [hd] at HD
      clear hd
      go_enter Try.func27, Try.ntmps27
      go_wp2_with fail
      refine HD.out.mono ?_; rintro e w1 ⟨rfl, rfl⟩
      go_wp2
      go_ret
      exact ⟨ret_int (by rw [HR.out]), by rw [HR.out]; exact HF.out, But.refl _ _ _⟩
end Go.Proofs.Ytpfbiijcmmkjlaa
