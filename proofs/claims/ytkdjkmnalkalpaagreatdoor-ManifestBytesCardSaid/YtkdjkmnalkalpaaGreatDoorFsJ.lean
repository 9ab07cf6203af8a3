/- Package simfs: 'Remove', 'Rename', 'Steps', 'Arm'. Package simfs: 'Sync', 'SyncDir', 'Read', 'Plan'. Package simfs: how many bytes a directory has. -/
import Derived.Test.YtkdjkmnalkalpaaGreatDoorFsG
import Derived.Shelf.SlMaps.Clone
import Derived.Maps.RangeWalk
namespace Go.Proofs.YtkdjkmnalkalpaaGreatDoor
open Go.RowKit Go.Maps Go.WideMaps
set_option maxRecDepth 100000

def changeA (A : FsA) (c : Chg) : FsA := { A with now := c.ap A.now, since := A.since ++ [c] }
def doneA (A : FsA) (f : FsA → FsA) : FsA × Int := if (stepA A).2.2 = 0 then (f (stepA A).1, 0) else ((stepA A).1, (stepA A).2.2)
def removeA (A : FsA) (s : ByteArray) : FsA × Int := if (findA A s).2 = 0 then doneA A (fun B => changeA B (.remove s)) else (A, (findA A s).2)
def renameA (A : FsA) (a b : ByteArray) : FsA × Int :=
  if nameB a = true ∧ nameB b = true then
    if dget A.now a = none then (A, 3) else doneA A (fun B => changeA B (.rename a b))
  else (A, 7)
structure Few (A : FsA) : Prop where
  now : Maps.size A.now < 100000
  since : A.since.length < 100000
theorem Few.step {A : FsA} (h : Few A) : Few (stepA A).1 := ⟨by rw [(stepA_same A).1]; exact h.now, by rw [(stepA_same A).2.2.1]; exact h.since⟩

theorem made_done {w w1 w2 : World} {g : Nat} {S : Nat → Prop} {A : FsA} {v : Value} {c : Chg} (_h : Fs w g S A) (_hc : Clo w1 (newB w w1) v c) (hb : Below w.heap.size w w1)
    (h2 : Fs w2 g (grow (grow S w w1) w1 w2) (changeA A c)) (hk : Keep (grow S w w1) w1 w2) : Fs w2 g (grow S w w2) (changeA A c) ∧ Keep S w w2 := by
  rw [grow_trans S hb.size hk.size] at h2
  exact ⟨h2, (Keep.of_below hb : Keep S w w1).trans hk⟩
theorem made_any {w w1 : World} {g : Nat} {S : Nat → Prop} {A : FsA} {v : Value} {c : Chg} (h : Fs w g S A) (hf : Few A) (hc : Clo w1 (newB w w1) v c) (hb : Below w.heap.size w w1) :
    Calls Tryz.prog 99 #[.pointer (some ⟨g, 0, none⟩), v] w1 fun e w2 => e = .returned (.tuple #[]) ∧ Fs w2 g (grow S w w2) (changeA A c) ∧ Keep S w w2 :=
  (change_any g (grow S w w1) A v c w1 ((h.below hb).to grow_left fun _ _ _ => rfl) (hc.to (fun _ hk => .inr hk) fun _ _ _ _ => rfl) (by have := hf.now; omega) (by have := hf.since; omega)).mono fun e w2 ⟨he, h2, hk⟩ =>
    ⟨he, made_done h hc hb h2 hk⟩
theorem Fs.gS {w : World} {g : Nat} {S : Nat → Prop} {A : FsA} (h : Fs w g S A) : S g := by obtain ⟨_, _, _, _, _, _, hM⟩ := h; exact hM.gS
theorem grow_two {S : Nat → Prop} {w w1 w2 : World} {g : Nat} {A : FsA} (h : Fs w2 g (grow S w1 w2) A) (h1 : w.heap.size ≤ w1.heap.size) : Fs w2 g (grow S w w2) A :=
  h.to (fun k hk => hk.elim .inl fun h => .inr ⟨by omega, h.2⟩) fun _ _ _ => rfl

set_option maxRecDepth 100000 in
set_option maxHeartbeats 2000000 in
theorem remove_any (g : Nat) (S : Nat → Prop) (A : FsA) (s : ByteArray) (w : World) (h : Fs w g S A) (hn : Num A) (hf : Few A) (hs : s.size ≤ 9223372036854775807) :
    Calls Tryz.prog 73 #[.pointer (some ⟨g, 0, none⟩), .string s] w fun e w' => e = .returned (.int .i64 (removeA A s).2) ∧ Fs w' g (grow S w w') (removeA A s).1 ∧ Keep S w w' := by
  have HF := Lib.hid h
  have HNUM := Lib.hid hn
  have HFEW := Lib.hid hf
  have HFI := Lib.hid (find_any g S A s w h hs)
  clear h hn hf
  go_enter Tryz.func73, Tryz.ntmps73
  by_cases hc : (findA A s).2 = 0
  · have hnm : nameB s = true := by
      apply Decidable.byContradiction
      intro hno
      unfold findA at hc
      rw [if_neg hno] at hc; cases hc
    have hsz := (nameB_size hnm).2
    have HR : Hid (removeA A s = doneA A (fun B => changeA B (.remove s))) := by show _ = _; unfold removeA; rw [if_pos hc]
    generalize findA A s = fa at *
    obtain ⟨fx, fc⟩ := fa
    simp only at hc HFI
    subst hc
    clear hnm
    go_wp2_with fail
    refine HFI.out.mono ?_; rintro e w1 ⟨rfl, hb1⟩
    have HF1 := Lib.hid (HF.out.below hb1)
    have HB1 := Lib.hid hb1
    clear hb1
    go_wp2_with fail
    refine (step_any g S A w1 HF1.out HNUM.out).mono ?_; rintro e w2 ⟨rfl, hF2, hb2⟩
    have HK2 := Lib.hid ((Keep.of_below HB1.out : Keep S w w1).trans' (Keep.of_but hb2 HF.out.gS))
    have HF2 := Lib.hid hF2
    have HFEW2 := Lib.hid HFEW.out.step
    clear hF2 hb2
    by_cases he : (stepA A).2.2 = 0
    · have HD : Hid (doneA A (fun B => changeA B (.remove s)) = (changeA (stepA A).1 (.remove s), 0)) := by show _ = _; unfold doneA; rw [if_pos he]
      generalize stepA A = st at *
      obtain ⟨A2, k2, e2⟩ := st
      simp only at he HD HF2 HFEW2
      subst he
      go_wp2_with fail
      refine (removal_any s w2 hsz).mono ?_; rintro e w3 ⟨v, rfl, hclo, hB3⟩
      have HM := Lib.hid (made_any HF2.out HFEW2.out hclo hB3)
      clear hclo hB3
      go_wp2_with fail
      refine HM.out.mono ?_; rintro e w4 ⟨rfl, hF4, hK4⟩
      have HF4 := Lib.hid hF4
      have HK4 := Lib.hid hK4
      clear hF4 hK4
      go_wp2_with fail
      go_ret
      exact ⟨ret_int (by rw [HR.out, HD.out]), by rw [HR.out, HD.out]; exact grow_two HF4.out HK2.out.size, HK2.out.trans' HK4.out⟩
    · have HD : Hid (doneA A (fun B => changeA B (.remove s)) = ((stepA A).1, (stepA A).2.2)) := by show _ = _; unfold doneA; rw [if_neg he]
      have he' : ((stepA A).2.2 == 0) = false := by simpa using he
      generalize stepA A = st at *
      obtain ⟨A2, k2, e2⟩ := st
      simp only at he he' HD HF2 HFEW2
      clear he
      go_wp2_with fail
      go_ret
      exact ⟨ret_int (by rw [HR.out, HD.out]), by rw [HR.out, HD.out]; exact HF2.out.to grow_left fun _ _ _ => rfl, HK2.out⟩
  · have HR : Hid (removeA A s = (A, (findA A s).2)) := by show _ = _; unfold removeA; rw [if_neg hc]
    have hc' : ((findA A s).2 == 0) = false := by simpa using hc
    generalize findA A s = fa at *
    obtain ⟨fx, fc⟩ := fa
    simp only at hc hc' HFI HR
    clear hc
    go_wp2_with fail
    refine HFI.out.mono ?_; rintro e w1 ⟨rfl, hb1⟩
    have HF1 := Lib.hid (HF.out.below hb1)
    have HB1 := Lib.hid hb1
    clear hb1
    go_wp2_with fail
    go_ret
    exact ⟨ret_int (by rw [HR.out]), by rw [HR.out]; exact HF1.out.to grow_left fun _ _ _ => rfl, Keep.of_below HB1.out⟩

set_option maxRecDepth 100000 in
set_option maxHeartbeats 4000000 in
theorem rename_any (g : Nat) (S : Nat → Prop) (A : FsA) (a b : ByteArray) (w : World) (h : Fs w g S A) (hn : Num A) (hf : Few A) (ha : a.size ≤ 9223372036854775807) (hb : b.size ≤ 9223372036854775807) :
    Calls Tryz.prog 71 #[.pointer (some ⟨g, 0, none⟩), .string a, .string b] w fun e w' => e = .returned (.int .i64 (renameA A a b).2) ∧ Fs w' g (grow S w w') (renameA A a b).1 ∧ Keep S w w' := by
  have HF := Lib.hid h
  have HNUM := Lib.hid hn
  have HFEW := Lib.hid hf
  have hnm := named_any w.heap.size [a, b] (w.alloc (.cells #[.string a, .string b] 9)) (Blk.new w 9 [.string a, .string b]) (by simp) (fun t ht => by
    rcases List.mem_cons.1 ht with rfl | ht
    · omega
    · obtain rfl := List.mem_singleton.1 ht; omega)
  have HN : Hid (Calls Tryz.prog 97 #[.slice (some ⟨w.heap.size, 0, none⟩) 2 2] (w.alloc (.cells #[.string a, .string b] 9)) fun e w' => e = .returned (.bool (nameB a && nameB b)) ∧ Below (w.alloc (.cells #[.string a, .string b] 9)).heap.size (w.alloc (.cells #[.string a, .string b] 9)) w') := by
    have := hnm; simp only [List.all_cons, List.all_nil, Bool.and_true, List.length_cons, List.length_nil, Nat.zero_add] at this; exact this
  clear h hn hf hnm
  go_enter Tryz.func71, Tryz.ntmps71
  cases hab : (nameB a && nameB b)
  · have HR : Hid (renameA A a b = (A, 7)) := by
      show _ = _; unfold renameA
      rw [if_neg (fun h => by rw [h.1, h.2] at hab; cases hab)]
    rw [hab] at HN
    clear hab
    go_wp2_with fail
    refine HN.out.mono ?_; rintro e w1 ⟨rfl, hb1⟩
    have hB : Below w.heap.size w w1 := ((Below.refl _ w).alloc (Nat.le_refl _) _).trans (hb1.mono (by simp))
    clear hb1
    go_wp2_with fail
    go_ret
    exact ⟨ret_int (by rw [HR.out]), by rw [HR.out]; exact (HF.out.below hB).to grow_left fun _ _ _ => rfl, Keep.of_below hB⟩
  · have hand : nameB a = true ∧ nameB b = true := by simpa using hab
    have hsa := (nameB_size hand.1).2
    have hsb := (nameB_size hand.2).2
    have HAND := Lib.hid hand
    rw [hab] at HN
    clear hab hand
    go_wp2_with fail
    refine HN.out.mono ?_; rintro e w1 ⟨rfl, hb1⟩
    have hB : Below w.heap.size w w1 := ((Below.refl _ w).alloc (Nat.le_refl _) _).trans (hb1.mono (by simp))
    have hF1 := HF.out.below hB
    have HF1 := Lib.hid hF1
    have HB1 := Lib.hid hB
    obtain ⟨pv, bn, bs, sv, vs, dv, hM1⟩ := hF1
    have c6 := hM1.row.cell (i := 6) rfl
    have hl := (hM1.now.look (s := a) (by unfold maxLen; omega)).1
    clear hb1 hM1 hB
    cases hx : dget A.now a with
    | none =>
      have HR : Hid (renameA A a b = (A, 3)) := by show _ = _; unfold renameA; rw [if_pos HAND.out, if_pos hx]
      have hl' : (Instr.lookup 102 (.map (some bn)) (.string a) false).run Tryz.prog w1 = .ok (.pointer none) w1 := by rw [hx] at hl; exact hl
      clear hl hx
      go_wp2_with fail
      go_ret
      exact ⟨ret_int (by rw [HR.out]), by rw [HR.out]; exact HF1.out.to grow_left fun _ _ _ => rfl, Keep.of_below HB1.out⟩
    | some b0 =>
      have HR : Hid (renameA A a b = doneA A (fun B => changeA B (.rename a b))) := by show _ = _; unfold renameA; rw [if_pos HAND.out, if_neg (by rw [hx]; simp)]
      have hl' : (Instr.lookup 102 (.map (some bn)) (.string a) false).run Tryz.prog w1 = .ok (.pointer (some ⟨b0, 0, none⟩)) w1 := by rw [hx] at hl; exact hl
      clear hl hx
      go_wp2_with fail
      refine (step_any g S A w1 HF1.out HNUM.out).mono ?_; rintro e w2 ⟨rfl, hF2, hb2⟩
      have HK2 := Lib.hid ((Keep.of_below HB1.out : Keep S w w1).trans' (Keep.of_but hb2 HF.out.gS))
      have HF2 := Lib.hid hF2
      have HFEW2 := Lib.hid HFEW.out.step
      clear hF2 hb2 hl' c6
      by_cases he : (stepA A).2.2 = 0
      · have HD : Hid (doneA A (fun B => changeA B (.rename a b)) = (changeA (stepA A).1 (.rename a b), 0)) := by show _ = _; unfold doneA; rw [if_pos he]
        generalize stepA A = st at *
        obtain ⟨A2, k2, e2⟩ := st
        simp only at he HD HF2 HFEW2
        subst he
        go_wp2_with fail
        refine (renaming_any a b w2 hsa hsb).mono ?_; rintro e w3 ⟨v, rfl, hclo, hB3⟩
        have HM := Lib.hid (made_any HF2.out HFEW2.out hclo hB3)
        clear hclo hB3
        go_wp2_with fail
        refine HM.out.mono ?_; rintro e w4 ⟨rfl, hF4, hK4⟩
        have HF4 := Lib.hid hF4
        have HK4 := Lib.hid hK4
        clear hF4 hK4
        go_wp2_with fail
        go_ret
        exact ⟨ret_int (by rw [HR.out, HD.out]), by rw [HR.out, HD.out]; exact grow_two HF4.out HK2.out.size, HK2.out.trans' HK4.out⟩
      · have HD : Hid (doneA A (fun B => changeA B (.rename a b)) = ((stepA A).1, (stepA A).2.2)) := by show _ = _; unfold doneA; rw [if_neg he]
        have he' : ((stepA A).2.2 == 0) = false := by simpa using he
        generalize stepA A = st at *
        obtain ⟨A2, k2, e2⟩ := st
        simp only at he he' HD HF2 HFEW2
        clear he
        go_wp2_with fail
        go_ret
        exact ⟨ret_int (by rw [HR.out, HD.out]), by rw [HR.out, HD.out]; exact HF2.out.to grow_left fun _ _ _ => rfl, HK2.out⟩

end Go.Proofs.YtkdjkmnalkalpaaGreatDoor
namespace Go.Proofs.YtkdjkmnalkalpaaGreatDoor
open Go.RowKit Go.Maps Go.WideMaps
set_option maxRecDepth 100000

section
variable {w w' w'' : World} {g : Nat} {S T : Nat → Prop} {A : FsA} {pv : Value} {bn bs : Nat} {sv : Value} {vs : List Value} {dv : Nat → Value}
theorem OwnD.blk {v : Value} {ys : List Int} (h : OwnD w v ys) : ∀ x, v.ownBlock = some x → ∃ cur, w.heap[x]? = some (.cells cur 5 (0, 0)) := by
  intro x hx
  rcases h.2 with ⟨hv, _⟩ | ⟨y, cap, cur, hv, _, hy, _⟩
  · rw [hv] at hx; cases hx
  · rw [hv] at hx; cases hx; exact ⟨cur, hy⟩
theorem FsM.setFile (h : FsM w g S A pv bn bs sv vs dv) {b : Nat} {f f' : Fil} (hb : A.file b = some f) {d' : Value} (hT : ∀ k, S k → T k)
    (hs : ∀ k, k < w.heap.size → k ≠ b → (∀ x, (dv b).ownBlock = some x → k ≠ x) → w'.heap[k]? = w.heap[k]?)
    (hf : FileAt w' b d' f') (hdT : ∀ k, d'.ownBlock = some k → T k) (hd : d'.ownBlock = (dv b).ownBlock ∨ ∀ k, d'.ownBlock = some k → w.heap.size ≤ k) :
    FsM w' g T { A with file := fun k => if k = b then some f' else A.file k } pv bn bs sv vs (fun k => if k = b then d' else dv k) := by
  obtain ⟨hfa, hfS, hfd⟩ := h.file b f hb
  have ct : ∀ {cs cs' : Array Value} {t t' : TypeId} {fr fr' : Nat × Nat}, t ≠ t' → Obj.cells cs t fr ≠ .cells cs' t' fr' := fun hne e => by injection e with _ e2 _; exact hne e2
  have hk : ∀ {k : Nat} {o : Obj}, w.heap[k]? = some o → (∀ cs, o ≠ .cells cs 180 (0, 0)) → (∀ cs, o ≠ .cells cs 5 (0, 0)) → w'.heap[k]? = w.heap[k]? := fun {k o} e h1 h2 =>
    hs k (heap_lt e) (kind_ne e hfa.1 (h1 _)) fun x hx => by obtain ⟨cur, hcur⟩ := hfa.2.blk x hx; exact kind_ne e hcur (h2 _)
  obtain ⟨es, cl, hn, _⟩ := h.now
  obtain ⟨es', cl', hsu, _⟩ := h.sure
  refine { row := Blk.of (hk h.row (fun _ => ct (by decide)) (fun _ => ct (by decide))) h.row, gS := hT _ h.gS, plan := h.plan.to fun k cur e _ => hk e (fun _ => ct (by decide)) (fun _ => ct (by decide)), planS := fun k o => hT _ (h.planS k o), now := h.now.to (hk hn (by intro _ e; cases e) (by intro _ e; cases e)), nS := hT _ h.nS, sure := h.sure.to (hk hsu (by intro _ e; cases e) (by intro _ e; cases e)), sS := hT _ h.sS, ne := h.ne, since := ownsRow_to h.since fun k cur e _ => hk e (fun _ => ct (by decide)) (fun _ => ct (by decide)), sinceS := fun k o => hT _ (h.sinceS k o), cloL := h.cloL, clo := ?_, file := ?_, apart := ?_ }
  · intro i c e
    obtain ⟨v, h1, h2⟩ := h.clo i c e
    refine ⟨v, h1, h2.to hT fun k cs hk' _ => ?_⟩
    rcases hk' with hk' | hk'
    · exact hk hk' (fun _ => ct (by decide)) (fun _ => ct (by decide))
    · exact hk hk' (fun _ => ct (by decide)) (fun _ => ct (by decide))
  · intro k f0 hk0
    simp only at hk0 ⊢
    by_cases hkb : k = b
    · subst hkb
      rw [if_pos rfl] at hk0 ⊢
      cases hk0
      exact ⟨hf, hT _ hfS, hdT⟩
    · rw [if_neg hkb] at hk0 ⊢
      obtain ⟨h1, h2, h3⟩ := h.file k f0 hk0
      refine ⟨h1.to (hs k h1.1.lt hkb fun x hx => by obtain ⟨cur, hcur⟩ := hfa.2.blk x hx; exact kind_ne h1.1 hcur (ct (by decide))) fun x cur e o => ?_, hT _ h2, fun x o => hT _ (h3 x o)⟩
      refine hs x (heap_lt e) (kind_ne e hfa.1 (ct (by decide))) fun y hy hxy => ?_
      subst hxy
      exact h.apart k b hkb (by rw [hk0]; rfl) (by rw [hb]; rfl) x o hy
  · intro k k' hne h1 h2 x hx hx'
    simp only at h1 h2 hx hx'
    by_cases hkb : k = b
    · rw [if_pos hkb] at hx
      rw [if_neg (fun e => hne (by rw [hkb, e]))] at h2 hx'
      have hk' : k' ≠ b := fun e => hne (by rw [hkb, e])
      rcases hd with hd | hd
      · rw [hd] at hx
        exact h.apart k' b hk' h2 (by rw [hb]; rfl) x hx' hx
      · have hge := hd x hx
        obtain ⟨f0, hf0⟩ := Option.isSome_iff_exists.1 h2
        obtain ⟨cur, hcur⟩ := (h.file k' f0 hf0).1.2.blk x hx'
        have := heap_lt hcur; omega
    · rw [if_neg hkb] at h1 hx
      by_cases hkb' : k' = b
      · rw [if_pos hkb'] at hx'
        rcases hd with hd | hd
        · rw [hd] at hx'
          exact h.apart k b hkb h1 (by rw [hb]; rfl) x hx hx'
        · have hge := hd x hx'
          obtain ⟨f0, hf0⟩ := Option.isSome_iff_exists.1 h1
          obtain ⟨cur, hcur⟩ := (h.file k f0 hf0).1.2.blk x hx
          have := heap_lt hcur; omega
      · rw [if_neg hkb'] at h2 hx'
        exact h.apart k k' hne h1 h2 x hx hx'
theorem FsM.syncd (h : FsM w g S A pv bn bs sv vs dv) (hs : ∀ k, k < w.heap.size → k ≠ g → w'.heap[k]? = w.heap[k]?) (hT : ∀ k, S k → T k) {bs' : Nat}
    (hr : Blk w' g 105 (fsRow A.count A.armed A.left pv A.room A.created bn bs' (.slice none 0 0))) (hd : Dir w' bs' A.now) (hT' : T bs') (hne : w.heap.size ≤ bs') :
    FsM w' g T { A with sure := A.now, since := [] } pv bn bs' (.slice none 0 0) [] dv := by
  have ct : ∀ {cs cs' : Array Value} {t t' : TypeId} {fr fr' : Nat × Nat}, t ≠ t' → Obj.cells cs t fr ≠ .cells cs' t' fr' := fun hne e => by injection e with _ e2 _; exact hne e2
  have hk : ∀ {k : Nat} {o : Obj}, w.heap[k]? = some o → (∀ cs, o ≠ .cells cs 105 (0, 0)) → w'.heap[k]? = w.heap[k]? := fun {k o} e h1 => hs k (heap_lt e) (kind_ne e h.row (h1 _))
  obtain ⟨es, cl, hn, _⟩ := h.now
  refine { row := hr, gS := hT _ h.gS, plan := h.plan.to fun k cur e _ => hk e (fun _ => ct (by decide)), planS := fun k o => hT _ (h.planS k o), now := h.now.to (hk hn (by intro _ e; cases e)), nS := hT _ h.nS, sure := hd, sS := hT', ne := ?_, since := World.ownsRow_nil _ _ _ _, sinceS := (fun k hk => by cases hk), cloL := rfl, clo := (fun i c h => by cases h), file := ?_, apart := h.apart }
  · have := h.now.lt; omega
  · intro b f e
    obtain ⟨h1, h2, h3⟩ := h.file b f e
    exact ⟨h1.to (hk h1.1 (fun _ => ct (by decide))) fun k cur e _ => hk e (fun _ => ct (by decide)), hT _ h2, fun k o => hT _ (h3 k o)⟩
end

def syncA (A : FsA) (s : ByteArray) : FsA × Int :=
  if (findA A s).2 = 0 then doneA A (fun B => { B with file := fun k => if some k = (findA A s).1 then (B.file k).map (fun f => { f with sure := f.data.length }) else B.file k }) else (A, (findA A s).2)
def dirA (A : FsA) : FsA × Int := doneA A (fun B => { B with sure := B.now, since := [] })
def Named (A : FsA) : Prop := ∀ s b, dget A.now s = some b → ∃ f, A.file b = some f
theorem findA_ok {A : FsA} {s : ByteArray} (h : (findA A s).2 = 0) (hn : Named A) : ∃ b f, findA A s = (some b, 0) ∧ A.file b = some f := by
  unfold findA at h ⊢
  by_cases hb : nameB s = true
  · rw [if_pos hb] at h ⊢
    cases hd : dget A.now s with
    | none => rw [hd] at h; cases h
    | some b => obtain ⟨f, hf⟩ := hn s b hd; exact ⟨b, f, rfl, hf⟩
  · rw [if_neg hb] at h; cases h

set_option maxRecDepth 100000 in
set_option maxHeartbeats 2000000 in
theorem sync_any (g : Nat) (S : Nat → Prop) (A : FsA) (s : ByteArray) (w : World) (h : Fs w g S A) (hn : Num A) (hnm : Named A) (hs : s.size ≤ 9223372036854775807) :
    Calls Tryz.prog 67 #[.pointer (some ⟨g, 0, none⟩), .string s] w fun e w' => e = .returned (.int .i64 (syncA A s).2) ∧ Fs w' g S (syncA A s).1 ∧ Keep S w w' := by
  have HF := Lib.hid h
  have HNUM := Lib.hid hn
  have HFI := Lib.hid (find_any g S A s w h hs)
  clear h hn
  go_enter Tryz.func67, Tryz.ntmps67
  by_cases hc : (findA A s).2 = 0
  · obtain ⟨b, f, hfi, hfb⟩ := findA_ok hc hnm
    have HR : Hid (syncA A s = doneA A (fun B => { B with file := fun k => if some k = (findA A s).1 then (B.file k).map (fun f => { f with sure := f.data.length }) else B.file k })) := by show _ = _; unfold syncA; rw [if_pos hc]
    rw [hfi] at HR HFI
    have HFB := Lib.hid hfb
    clear hc hnm hfi hfb
    have HFI' : Hid (Calls Tryz.prog 101 #[.pointer (some ⟨g, 0, none⟩), .string s] w fun e w' => e = .returned (.tuple #[.pointer (some ⟨b, 0, none⟩), .int .i64 0]) ∧ Below w.heap.size w w') := HFI.out
    clear HFI
    go_wp2_with fail
    refine HFI'.out.mono ?_; rintro e w1 ⟨rfl, hb1⟩
    have HF1 := Lib.hid (HF.out.below hb1)
    have HB1 := Lib.hid hb1
    clear hb1
    go_wp2_with fail
    refine (step_any g S A w1 HF1.out HNUM.out).mono ?_; rintro e w2 ⟨rfl, hF2, hb2⟩
    have HK2 := Lib.hid ((Keep.of_below HB1.out : Keep S w w1).trans' (Keep.of_but hb2 HF.out.gS))
    have HF2 := Lib.hid hF2
    have HSAME := Lib.hid (stepA_same A)
    clear hF2 hb2
    by_cases he : (stepA A).2.2 = 0
    · have HD : Hid (∀ F, doneA A F = (F (stepA A).1, 0)) := fun F => by unfold doneA; rw [if_pos he]
      generalize stepA A = st at *
      obtain ⟨A2, k2, e2⟩ := st
      simp only at he HD HF2 HSAME
      subst he
      obtain ⟨pv, bn, bs, sv, vs, dv, hM⟩ := HF2.out
      have hfb2 : A2.file b = some f := by rw [HSAME.out.2.2.2.1]; exact HFB.out
      obtain ⟨hfa, hfS, hfd⟩ := hM.file b f hfb2
      obtain ⟨da, dc, hde⟩ := own_slice hfa.2
      have c1 := hfa.1.cell (i := 1) rfl
      rw [hde] at c1
      have c2 := hfa.1.cell (i := 2) rfl
      have f2 := hfa.1.frozen 2
      have hset := hfa.1.set 2 (.int .i64 (f.data.length : Int))
      have hso : ∀ k, k ≠ b → (w2.setCell ⟨b, 2, none⟩ (.int .i64 (f.data.length : Int))).heap[k]? = w2.heap[k]? := fun k hk => heap_setCell_other w2 ⟨b, 2, none⟩ k _ hk
      have HFIN := Lib.hid (hM.setFile hfb2 (f' := { f with sure := f.data.length }) (d' := dv b) (T := S) (fun _ k => k) (fun k _ hk _ => hso k hk) ⟨hset, ownsRow_to hfa.2 fun k cur e _ => hso k (kind_ne e hfa.1 (fun e => by injection e with _ e2 _; exact absurd e2 (by decide)))⟩ hfd (.inl rfl))
      have HEQ : Hid ({ A2 with file := fun k => if k = b then some { f with sure := f.data.length } else A2.file k } = { A2 with file := fun k => if some k = some b then (A2.file k).map (fun f => { f with sure := f.data.length }) else A2.file k }) := by
        show _ = _
        congr 1
        funext k
        by_cases hk : k = b
        · subst hk; rw [if_pos rfl, if_pos rfl, hfb2]; rfl
        · rw [if_neg hk, if_neg (fun e => hk (Option.some.inj e))]
      have HKF := Lib.hid (HK2.out.trans' (w'' := w2.setCell ⟨b, 2, none⟩ (.int .i64 (f.data.length : Int))) ⟨rfl, rfl, rfl, by simp [World.setCell], fun k _ hk => hso k (fun e => hk (by rw [e]; exact hfS))⟩)
      clear hM hfa hfS hfd hset hso hde hfb2
      go_wp2_with fail
      go_ret
      exact ⟨ret_int (by rw [HR.out, HD.out]), by rw [HR.out, HD.out]; simp only; rw [← HEQ.out]; exact ⟨_, _, _, _, _, _, HFIN.out⟩, HKF.out⟩
    · have HD : Hid (∀ F, doneA A F = ((stepA A).1, (stepA A).2.2)) := fun F => by unfold doneA; rw [if_neg he]
      have he' : ((stepA A).2.2 == 0) = false := by simpa using he
      generalize stepA A = st at *
      obtain ⟨A2, k2, e2⟩ := st
      simp only at he he' HD HF2
      clear he
      go_wp2_with fail
      go_ret
      exact ⟨ret_int (by rw [HR.out, HD.out]), by rw [HR.out, HD.out]; exact HF2.out, HK2.out⟩
  · have HR : Hid (syncA A s = (A, (findA A s).2)) := by show _ = _; unfold syncA; rw [if_neg hc]
    have hc' : ((findA A s).2 == 0) = false := by simpa using hc
    generalize findA A s = fa at *
    obtain ⟨fx, fc⟩ := fa
    simp only at hc hc' HFI HR
    clear hc hnm
    go_wp2_with fail
    refine HFI.out.mono ?_; rintro e w1 ⟨rfl, hb1⟩
    have HF1 := Lib.hid (HF.out.below hb1)
    have HB1 := Lib.hid hb1
    clear hb1
    go_wp2_with fail
    go_ret
    exact ⟨ret_int (by rw [HR.out]), by rw [HR.out]; exact HF1.out, Keep.of_below HB1.out⟩

set_option maxRecDepth 100000 in
set_option maxHeartbeats 1000000 in
theorem mapsClone_any (b : Nat) (D : DataW Unit) (w : World) (h : Dir w b D) :
    Calls Tryz.prog 126 #[.map (some b)] w fun e w' => e = .returned (.map (some w.heap.size)) ∧ Dir w' w.heap.size D ∧ Below w.heap.size w w' := by
  obtain ⟨es, cl, hb, F, hs, hD⟩ := h
  have hq := fun w => run_eql_map_nil_sl (P := Tryz.prog) w 102 _ _ (some b) Tryz.underlying102
  go_enter Tryz.func126, Tryz.ntmps126
  go_wp2
  rw [run_callFunc_extern Tryz.func186 (by kernel_rfl) (by kernel_rfl) (by kernel_rfl) (e := Extern.MapsClone.clone) (by kernel_rfl), run_maps_clone_sl w 102 hb]
  simp only [Result.andThen]
  rw [Oper.upon_value]
  go_wp2
  rw [run_typeAssert_map_sl _ 102 20 _ _ _ Tryz.underlying102]
  simp only [Result.andThen]
  rw [Oper.upon_value]
  go_wp2
  go_ret
  exact ⟨rfl, ⟨es, cl, (MapKept.heap_alloc w _).1, F, hs, hD⟩, (Below.refl _ w).alloc (Nat.le_refl _) _⟩

set_option maxRecDepth 100000 in
set_option maxHeartbeats 2000000 in
theorem syncDir_any (g : Nat) (S : Nat → Prop) (A : FsA) (w : World) (h : Fs w g S A) (hn : Num A) :
    Calls Tryz.prog 69 #[.pointer (some ⟨g, 0, none⟩)] w fun e w' => e = .returned (.int .i64 (dirA A).2) ∧ Fs w' g (grow S w w') (dirA A).1 ∧ Keep S w w' := by
  have HF := Lib.hid h
  have HNUM := Lib.hid hn
  clear h hn
  go_enter Tryz.func69, Tryz.ntmps69
  go_wp2_with fail
  refine (step_any g S A w HF.out HNUM.out).mono ?_; rintro e w2 ⟨rfl, hF2, hb2⟩
  have HK2 := Lib.hid (Keep.of_but hb2 HF.out.gS)
  have HF2 := Lib.hid hF2
  have HGS := Lib.hid HF.out.gS
  clear hF2 hb2
  by_cases he : (stepA A).2.2 = 0
  · have HD : Hid (dirA A = ({ (stepA A).1 with sure := (stepA A).1.now, since := [] }, 0)) := by show _ = _; unfold dirA doneA; rw [if_pos he]
    generalize stepA A = st at *
    obtain ⟨A2, k2, e2⟩ := st
    simp only at he HD HF2
    subst he
    obtain ⟨pv, bn, bs, sv, vs, dv, hM⟩ := HF2.out
    have c6 := hM.row.cell (i := 6) rfl
    have HM := Lib.hid hM
    clear hM
    go_wp2_with fail
    refine (mapsClone_any bn A2.now w2 HM.out.now).mono ?_; rintro e w3 ⟨rfl, hd3, hB3⟩
    have hr3 := Below.blk hB3 HM.out.row.lt HM.out.row
    have c7' := hr3.cell (i := 7) rfl
    have c8' := hr3.cell (i := 8) rfl
    have f7' := hr3.frozen 7
    have f8' := hr3.frozen 8
    have hset := (hr3.set 7 (.map (some w2.heap.size))).set 8 (.slice none 0 0)
    have hso : ∀ k, k ≠ g → ((w3.setCell ⟨g, 7, none⟩ (.map (some w2.heap.size))).setCell ⟨g, 8, none⟩ (.slice none 0 0)).heap[k]? = w3.heap[k]? := fun k hk =>
      (heap_setCell_other _ ⟨g, 8, none⟩ k _ hk).trans (heap_setCell_other w3 ⟨g, 7, none⟩ k _ hk)
    have hszf : ((w3.setCell ⟨g, 7, none⟩ (.map (some w2.heap.size))).setCell ⟨g, 8, none⟩ (.slice none 0 0)).heap.size = w3.heap.size := by simp [World.setCell]
    have hne : w2.heap.size ≠ g := by have := HM.out.row.lt; omega
    have HFIN := Lib.hid (HM.out.syncd (w' := (w3.setCell ⟨g, 7, none⟩ (.map (some w2.heap.size))).setCell ⟨g, 8, none⟩ (.slice none 0 0)) (T := grow S w ((w3.setCell ⟨g, 7, none⟩ (.map (some w2.heap.size))).setCell ⟨g, 8, none⟩ (.slice none 0 0)))
      (fun k hk hkg => (hso k hkg).trans (hB3.block k hk)) grow_left hset (hd3.to (hso _ hne)) (.inr ⟨HK2.out.size, by rw [hszf]; exact hd3.lt⟩) (Nat.le_refl _))
    have HKF : Hid (Keep S w ((w3.setCell ⟨g, 7, none⟩ (.map (some w2.heap.size))).setCell ⟨g, 8, none⟩ (.slice none 0 0))) :=
      (HK2.out.trans' (Keep.of_below hB3)).trans' ⟨rfl, rfl, rfl, by rw [hszf]; exact Nat.le_refl _, fun k _ hk => hso k (fun e => hk (by rw [e]; exact HGS.out))⟩
    clear hr3 hset hso hszf hne hd3 hB3
    go_wp2_with fail
    go_ret
    exact ⟨ret_int (by rw [HD.out]), by rw [HD.out]; exact ⟨_, _, _, _, _, _, HFIN.out⟩, HKF.out⟩
  · have HD : Hid (dirA A = ((stepA A).1, (stepA A).2.2)) := by show _ = _; unfold dirA doneA; rw [if_neg he]
    have he' : ((stepA A).2.2 == 0) = false := by simpa using he
    generalize stepA A = st at *
    obtain ⟨A2, k2, e2⟩ := st
    simp only at he he' HD HF2
    clear he
    go_wp2_with fail
    go_ret
    exact ⟨ret_int (by rw [HD.out]), by rw [HD.out]; exact HF2.out.to grow_left fun _ _ _ => rfl, HK2.out⟩

def Copied (w w' : World) (v : Value) (ys : List Int) : Prop := w'.ownsRow w.heap.size 5 1 v ys.length (ys.map (Value.int .u8)) ∧ Below w.heap.size w w'
theorem bytesClone_any (v : Value) (ys : List Int) (w : World) (h : OwnD w v ys) (hl : ys.length ≤ 1000000) :
    Calls Tryz.prog 105 #[v] w fun e w' => ∃ v', e = .returned v' ∧ Copied w w' v' ys := by
  rcases h.2 with ⟨rfl, h0⟩ | ⟨x, cap, cur, rfl, _, hx, hcap, _, hcs, hxs⟩
  · have hy : ys = [] := List.length_eq_zero_iff.1 h0
    subst hy
    exact (Tryz.bytes_Clone_nil 0 0 w).mono fun e w' ⟨he, hw⟩ => ⟨_, he, by subst hw; exact ⟨World.ownsRow_nil _ _ _ _, Below.refl _ _⟩⟩
  · refine (Tryz.bytes_Clone_at ⟨x, 0, none⟩ ys.length cap ys w rfl (by omega) fun i hi => ?_).mono fun e w' ⟨v', he, ho, _, hB⟩ => ⟨v', he, ho, hB⟩
    have e : Addr.add ⟨x, 0, none⟩ i = ⟨x, i, none⟩ := by unfold Addr.add; by_cases h : i = 0 <;> simp [h]
    rw [e, cell_of_row w x i cur 5 (0, 0) hx, ← Array.getElem?_toList]
    have h1 : (ys.map (Value.int .u8))[i]? = some (.int .u8 (ys.getD i 0)) := by
      rw [List.getElem?_map, List.getD_eq_getElem?_getD, List.getElem?_eq_getElem hi]; rfl
    rw [← hxs, List.getElem?_take_of_lt (by omega)] at h1
    exact h1
def readA (A : FsA) (s : ByteArray) : List Int × Int :=
  if (findA A s).2 = 0 then (match (findA A s).1 with
    | some b => ((A.file b).map (·.data)).getD []
    | none => [], 0) else ([], (findA A s).2)
def Short (A : FsA) : Prop := ∀ b f, A.file b = some f → f.data.length ≤ 65536 ∧ f.sure ≤ f.data.length
set_option maxRecDepth 100000 in
set_option maxHeartbeats 2000000 in
theorem read_any (g : Nat) (S : Nat → Prop) (A : FsA) (s : ByteArray) (w : World) (h : Fs w g S A) (hnm : Named A) (hsh : Short A) (hs : s.size ≤ 9223372036854775807) :
    Calls Tryz.prog 38 #[.pointer (some ⟨g, 0, none⟩), .string s] w fun e w' => ∃ v, e = .returned (.tuple #[v, .int .i64 (readA A s).2]) ∧ Copied w w' v (readA A s).1 := by
  have HF := Lib.hid h
  have HFI := Lib.hid (find_any g S A s w h hs)
  clear h
  go_enter Tryz.func38, Tryz.ntmps38
  by_cases hc : (findA A s).2 = 0
  · obtain ⟨b, f, hfi, hfb⟩ := findA_ok hc hnm
    have HR : Hid (readA A s = (f.data, 0)) := by show _ = _; unfold readA; rw [if_pos hc, hfi]; simp only [hfb]; rfl
    have HLEN := Lib.hid (hsh b f hfb).1
    rw [hfi] at HFI
    have HFB := Lib.hid hfb
    clear hc hnm hsh hfi hfb
    have HFI' : Hid (Calls Tryz.prog 101 #[.pointer (some ⟨g, 0, none⟩), .string s] w fun e w' => e = .returned (.tuple #[.pointer (some ⟨b, 0, none⟩), .int .i64 0]) ∧ Below w.heap.size w w') := HFI.out
    clear HFI
    go_wp2_with fail
    refine HFI'.out.mono ?_; rintro e w1 ⟨rfl, hb1⟩
    obtain ⟨pv, bn, bs, sv, vs, dv, hM⟩ := HF.out.below hb1
    obtain ⟨hfa, hfS, hfd⟩ := hM.file b f HFB.out
    obtain ⟨da, dc, hde⟩ := own_slice hfa.2
    have c1 := hfa.1.cell (i := 1) rfl
    have HO := Lib.hid hfa.2
    have HB1 := Lib.hid hb1
    rw [hde] at c1 HO
    clear hM hfa hfS hfd hde hb1
    go_wp2_with fail
    refine (bytesClone_any _ f.data w1 HO.out (by have := HLEN.out; omega)).mono ?_; rintro e w2 ⟨v', rfl, hcp⟩
    obtain ⟨va, vc, rfl⟩ := own_slice hcp.1
    have HCP := Lib.hid hcp
    clear hcp
    go_wp2_with fail
    go_ret2
    refine ⟨.slice va f.data.length vc, by rw [HR.out]; rfl, ?_⟩
    rw [HR.out]
    refine ⟨⟨HCP.out.1.1, ?_⟩, HB1.out.trans (HCP.out.2.mono HB1.out.size)⟩
    rcases HCP.out.1.2 with hq | ⟨x, cap, cur, h1, h2, h3⟩
    · exact .inl hq
    · exact .inr ⟨x, cap, cur, h1, Nat.le_trans HB1.out.size h2, h3⟩
  · have HR : Hid (readA A s = ([], (findA A s).2)) := by show _ = _; unfold readA; rw [if_neg hc]
    have hc' : ((findA A s).2 == 0) = false := by simpa using hc
    generalize findA A s = fa at *
    obtain ⟨fx, fc⟩ := fa
    simp only at hc hc' HFI HR
    clear hc hnm hsh
    go_wp2_with fail
    refine HFI.out.mono ?_; rintro e w1 ⟨rfl, hb1⟩
    have HB1 := Lib.hid hb1
    clear hb1
    go_wp2_with fail
    go_ret2
    exact ⟨.slice none 0 0, by rw [HR.out]; rfl, by rw [HR.out]; exact ⟨World.ownsRow_nil _ _ _ _, HB1.out⟩⟩
end Go.Proofs.YtkdjkmnalkalpaaGreatDoor
namespace Go.Proofs.YtkdjkmnalkalpaaGreatDoor
open Go.RowKit Go.Maps Go.WideMaps
set_option maxRecDepth 100000

def wt (fl : Nat → Option Fil) : DataW Unit → Nat
  | .lit (.int .i64 b) => ((fl b.toNat).map (·.data.length)).getD 0
  | _ => 0
def tot (fl : Nat → Option Fil) (es : List (Lit × DataW Unit)) (left : Lit → Bool) : Nat := ((es.filter fun p => left p.1).map fun p => wt fl p.2).sum
theorem tot_step (fl : Nat → Option Fil) (kl : Lit) (y : DataW Unit) (left : Lit → Bool) (hl : left kl = true) : ∀ (es : List (Lit × DataW Unit)), es.Pairwise (fun p q => p.1 ≠ q.1) → (∀ p ∈ es, WideAt.IsKeyLit p.1) → (kl, y) ∈ es →
    tot fl es left = wt fl y + tot fl es (fun z => left z && !z.sameKey kl)
  | [], _, _, h => by cases h
  | p :: es, hp, hk, h => by
    obtain ⟨hp1, hp2⟩ := List.pairwise_cons.1 hp
    have hsame : ∀ q ∈ p :: es, q.1.sameKey kl = true ↔ q.1 = kl := fun q hq => ⟨WideAt.sameKey_eq, fun e => by
      have := hk q hq
      rw [← e]
      revert this
      cases q.1 <;> simp [WideAt.IsKeyLit, Lit.sameKey]⟩
    rcases List.mem_cons.1 h with rfl | h
    · have hrest : tot fl es (fun z => left z && !z.sameKey kl) = tot fl es left := by
        unfold tot
        congr 2
        apply List.filter_congr
        intro q hq
        have : q.1.sameKey kl = false := by
          cases hs : q.1.sameKey kl with
          | false => rfl
          | true => exact absurd ((hsame q (List.mem_cons_of_mem _ hq)).1 hs).symm (hp1 q hq)
        simp [this]
      have hself : kl.sameKey kl = true := (hsame (kl, y) (List.mem_cons_self)).2 rfl
      have e1 : tot fl ((kl, y) :: es) left = wt fl y + tot fl es left := by unfold tot; simp [hl]
      have e2 : tot fl ((kl, y) :: es) (fun z => left z && !z.sameKey kl) = tot fl es (fun z => left z && !z.sameKey kl) := by unfold tot; simp [hself]
      rw [e1, e2, hrest]
    · have ih := tot_step fl kl y left hl es hp2 (fun q hq => hk q (List.mem_cons_of_mem _ hq)) h
      have hne : p.1.sameKey kl = false := by
        cases hs : p.1.sameKey kl with
        | false => rfl
        | true => exact absurd ((hsame p (List.mem_cons_self)).1 hs) (hp1 _ h)
      by_cases hlp : left p.1 = true
      · have e1 : tot fl (p :: es) left = wt fl p.2 + tot fl es left := by unfold tot; simp [hlp]
        have e2 : tot fl (p :: es) (fun z => left z && !z.sameKey kl) = wt fl p.2 + tot fl es (fun z => left z && !z.sameKey kl) := by unfold tot; simp [hlp, hne]
        rw [e1, e2, ih]; omega
      · have e1 : tot fl (p :: es) left = tot fl es left := by unfold tot; simp [hlp]
        have e2 : tot fl (p :: es) (fun z => left z && !z.sameKey kl) = tot fl es (fun z => left z && !z.sameKey kl) := by unfold tot; simp [hlp]
        rw [e1, e2, ih]
theorem mem_of_atKey {es : List (Lit × DataW Unit)} {kl : Lit} {y : DataW Unit} (h : ∀ z, (DataW.map es).atKey kl z = y) : (kl, y) ∈ es := by
  cases hf : es.find? (fun p => p.1.sameKey kl) with
  | none =>
    have e : ∀ z, (DataW.map es).atKey kl z = z := fun z => by unfold DataW.atKey; simp [hf]
    have h1 := h .nil
    have h2 := h (.lit (.bool true))
    rw [e] at h1 h2
    rw [← h1] at h2; cases h2
  | some p =>
    have e : ∀ z, (DataW.map es).atKey kl z = p.2 := fun z => by unfold DataW.atKey; simp [hf]
    have h1 := List.mem_of_find?_eq_some hf
    have h2 := List.find?_some hf
    have h3 : p.1 = kl := WideAt.sameKey_eq h2
    have h4 := h .nil
    rw [e] at h4
    rw [← h3, ← h4]; exact h1
theorem tot_le (fl : Nat → Option Fil) (hs : ∀ b f, fl b = some f → f.data.length ≤ 65536) (left : Lit → Bool) : ∀ es : List (Lit × DataW Unit), tot fl es left ≤ 65536 * es.length
  | [] => by simp [tot]
  | p :: es => by
    have ih := tot_le fl hs left es
    have hw : wt fl p.2 ≤ 65536 := by
      unfold wt
      split
      · rename_i b _
        cases hf : fl b.toNat with
        | none => simp
        | some f => simpa using hs _ f hf
      · omega
    have : tot fl (p :: es) left ≤ wt fl p.2 + tot fl es left := by unfold tot; simp [List.filter_cons]; split <;> simp
    simp only [List.length_cons]; omega
def usedD (fl : Nat → Option Fil) : DataW Unit → Nat
  | .map es => tot fl es (fun _ => true)
  | _ => 0

theorem keyStr {key : Value} {kl : Lit} (h : keyOf Tryz.prog 9 key = some kl) : ∃ s, key = .string s ∧ kl = keyL s := by
  cases key <;> simp [keyOf, Tryz.underlying9, mapKey] at h
  rename_i s
  exact ⟨s, rfl, h.2.symm⟩
def Leads (w : World) (fl : Nat → Option Fil) (dv : Nat → Value) (es : List (Lit × DataW Unit)) : Prop :=
  ∀ p ∈ es, ∃ b f, p.2 = .lit (.int .i64 (b : Nat)) ∧ fl b = some f ∧ Blk w b 180 [.int .i64 f.num, dv b, .int .i64 f.sure] ∧ OwnD w (dv b) f.data ∧ f.data.length ≤ 65536

set_option maxRecDepth 100000 in
set_option maxHeartbeats 2000000 in
theorem size_any (b : Nat) (es : List (Lit × DataW Unit)) (fl : Nat → Option Fil) (dv : Nat → Value) (w : World) (h : Dir w b (.map es)) (hl : Leads w fl dv es) (hn : es.length < 100000) (hs : ∀ b f, fl b = some f → f.data.length ≤ 65536) :
    Calls Tryz.prog 132 #[.map (some b)] w fun e w' => e = .returned (.int .i64 (tot fl es (fun _ => true) : Nat)) ∧ Below w.heap.size w w' := by
  have hcan := h.canon
  obtain ⟨es', hes, hpw, hky⟩ := hcan
  cases hes
  have hap := apart_of_rising hpw
  have htl := tot_le fl hs (fun _ => true) es
  have hall : tot fl es (Maps.has (.map es)) = tot fl es (fun _ => true) := by
    unfold tot; congr 2
    apply List.filter_congr
    intro p hp
    rw [has_eq]
    have : es.any (fun q => q.1.sameKey p.1) = true := List.any_eq_true.2 ⟨p, hp, by
      have := hky p hp
      revert this
      cases p.1 <;> simp [WideAt.IsKeyLit, Lit.sameKey]⟩
    rw [this]
  have HD := Lib.hid h
  have HL := Lib.hid hl
  have HAP := Lib.hid hap
  have HKY := Lib.hid hky
  obtain ⟨T, hT⟩ : ∃ T, tot fl es (fun _ => true) = T := ⟨_, rfl⟩
  rw [hT] at htl hall ⊢
  have HT := Lib.hid hT
  have HALL := Lib.hid hall
  have HTL : T < 10000000000 := by omega
  clear h hl hap hky hpw hT hall htl hs
  go_enter Tryz.func132, Tryz.ntmps132
  go_wp2_with (first | (at_range; refine wpList_range_own _ rfl _ 102 rfl 9 173 law9 Tryz.underlying102 _ b _ _ rfl HD.out ?_; intro w0 hrg0 hg0 hs0))
  go_frame
  have hB0 : Below w.heap.size w w0 := (Below.refl _ w).grown hg0 (Nat.le_refl _) fun j hj => by cases hj
  go_loopw [3, 5] (fun s3 _ wr => ∃ (left : Lit → Bool) (cnt : Nat) (n : Nat), wr.ranges Tryz.prog 9 ptrElem b w.heap.size (Maps.size (.map es : DataW Unit)) (.map es) left cnt ∧ s3 = .int .i64 n ∧ n + tot fl es left = T ∧ Below w.heap.size w wr)
    (fun _ _ wr => wr.rangeLeft b w.heap.size)
  case atStart => exact ⟨_, _, 0, hrg0, rfl, by rw [Nat.zero_add]; exact HALL.out, hB0⟩
  case round =>
    clear hrg0 hg0 hs0 hB0
    obtain ⟨left, cnt, n, hrg, rfl, hsum, hB⟩ := hrel
    have HRG := Lib.hid hrg
    have HSUM := Lib.hid hsum
    have HB := Lib.hid hB
    clear hrg hsum hB
    go_wp2_with (first | (at_next; refine wpList_next_ranges _ rfl _ rfl 9 law9 ptrElem Value.string ptrOf (fun key kl hk => by obtain ⟨s, hs, _⟩ := keyStr hk; exact ⟨s, hs⟩) (fun v y hv => by obtain ⟨x, hx, _⟩ := ptrElem_inv hv; exact ⟨x, hx⟩) b w.heap.size _ _ _ _ rfl HRG.out ?_ ?_))
    · intro hc0 hl0
      have hz : tot fl es left = 0 := by
        unfold tot
        rw [List.filter_eq_nil_iff.2 (fun p _ => by rw [hl0]; simp)]; rfl
      have hnT : n = T := by have := HSUM.out; omega
      subst hnT
      clear hz
      go_wp2_with fail
      go_ret
      exact ⟨rfl, HB.out⟩
    · intro x c kl yd yp w1 cnt1 hkx hlk hRy hat hrg1 hlt hg1 hs1 hen
      have hyd : yd = datOf c := by
        rw [ptrElem_of] at hRy
        exact (congrArg Prod.fst (Option.some.inj hRy)).symm
      have hmem := mem_of_atKey hat
      obtain ⟨fb, f, hfb, hflb, hblk, hown, hlen⟩ := HL.out _ hmem
      simp only at hfb
      have hcb : c = some fb := datOf_inj (by rw [← hyd]; exact hfb)
      have hw : wt fl yd = f.data.length := by
        rw [hfb]; unfold wt; simp [hflb]
      have hst := tot_step fl kl yd left hlk es HAP.out HKY.out hmem
      rw [hw] at hst
      subst hcb
      obtain ⟨da, dc, hde⟩ := own_slice hown
      have hB1 : Below w.heap.size w w1 := HB.out.grown hg1 HB.out.size fun j hj => by obtain rfl := Option.some.inj hj; exact Nat.le_refl _
      have hblk1 := Below.blk hB1 hblk.lt hblk
      have c1 := hblk1.cell (i := 1) rfl
      rw [hde] at c1
      have hen' : (Instr.entry (.pointer (some ⟨w.heap.size, 0, none⟩))).run Tryz.prog w1 = .ok (.tuple #[.string x, .pointer (some ⟨fb, 0, none⟩)]) w1 := hen
      have hbd : n + f.data.length ≤ T := by have := HSUM.out; omega
      have hwr : IntKind.i64.wrap ((n : Int) + (f.data.length : Int)) = n + f.data.length := IntWalk.i64_in _ (by omega)
      have HB1 := Lib.hid hB1
      have HRG1 := Lib.hid hrg1
      have HST := Lib.hid hst
      have HLT := Lib.hid hlt
      clear hen hde hyd hRy hat hmem hfb hflb hblk hown hw hst hblk1 hB1 hrg1 hg1 hlt
      go_wp2_with fail
      go_roundw
      case rel => exact ⟨_, _, n + f.data.length, HRG1.out, by go_num, by have := HSUM.out; have := HST.out; omega, HB1.out⟩
      case measure => rw [HRG1.out.left_eq, HRG.out.left_eq]; exact HLT.out
end Go.Proofs.YtkdjkmnalkalpaaGreatDoor
