/- Package simfs: 'Sync', 'SyncDir', 'Read', 'Plan'. -/
import Derived.Test.YtpfbiijcmmkjlaaFsH
import Derived.Shelf.SlMaps.Clone
namespace Go.Proofs.Ytpfbiijcmmkjlaa
open Go.RowKit Go.Maps Go.WideMaps

section
variable {w w' w'' : World} {g : Nat} {S T : Nat → Prop} {A : FsA} {pv : Value} {bn bs : Nat} {sv : Value} {vs : List Value} {dv : Nat → Value}
theorem OwnD.blk {v : Value} {ys : List Int} (h : OwnD w v ys) : ∀ x, v.ownBlock = some x → ∃ cur, w.heap[x]? = some (.cells cur 5 (0, 0)) := by
  intro x hx
  rcases h.2 with ⟨hv, _⟩ | ⟨y, cap, cur, hv, _, hy, _⟩
  · rw [hv] at hx; cases hx
  · rw [hv] at hx; cases hx; exact ⟨cur, hy⟩
/-- One file is turned. -/
theorem FsM.setFile (h : FsM w g S A pv bn bs sv vs dv) {b : Nat} {f f' : Fil} (hb : A.file b = some f) {d' : Value} (hT : ∀ k, S k → T k)
    (hs : ∀ k, k < w.heap.size → k ≠ b → (∀ x, (dv b).ownBlock = some x → k ≠ x) → w'.heap[k]? = w.heap[k]?)
    (hf : FileAt w' b d' f') (hdT : ∀ k, d'.ownBlock = some k → T k) (hd : d'.ownBlock = (dv b).ownBlock ∨ ∀ k, d'.ownBlock = some k → w.heap.size ≤ k) :
    FsM w' g T { A with file := fun k => if k = b then some f' else A.file k } pv bn bs sv vs (fun k => if k = b then d' else dv k) := by
  obtain ⟨hfa, hfS, hfd⟩ := h.file b f hb
  have ct : ∀ {cs cs' : Array Value} {t t' : TypeId} {fr fr' : Nat × Nat}, t ≠ t' → Obj.cells cs t fr ≠ .cells cs' t' fr' := fun hne e => by injection e with _ e2 _; exact hne e2
  have hk : ∀ {k : Nat} {o : Obj}, w.heap[k]? = some o → (∀ cs, o ≠ .cells cs 84 (0, 0)) → (∀ cs, o ≠ .cells cs 5 (0, 0)) → w'.heap[k]? = w.heap[k]? := fun {k o} e h1 h2 =>
    hs k (heap_lt e) (kind_ne e hfa.1 (h1 _)) fun x hx => by obtain ⟨cur, hcur⟩ := hfa.2.blk x hx; exact kind_ne e hcur (h2 _)
  obtain ⟨es, cl, hn, _⟩ := h.now
  obtain ⟨es', cl', hsu, _⟩ := h.sure
  refine { row := Blk.of (hk h.row (fun _ => ct (by decide)) (fun _ => ct (by decide))) h.row, gS := hT _ h.gS, plan := h.plan.to fun k cur e _ => hk e (fun _ => ct (by decide)) (fun _ => ct (by decide)), planS := fun k o => hT _ (h.planS k o), now := h.now.to (hk hn (by intro _ e; cases e) (by intro _ e; cases e)), nS := hT _ h.nS, sure := h.sure.to (hk hsu (by intro _ e; cases e) (by intro _ e; cases e)), sS := hT _ h.sS, ne := h.ne, since := ownsRow_to h.since fun k cur e _ => hk e (fun _ => ct (by decide)) (fun _ => ct (by decide)), sinceS := fun k o => hT _ (h.sinceS k o), cloL := h.cloL, clo := ?_, file := ?_, apart := ?_ }
  · intro i c e
    obtain ⟨v, h1, h2⟩ := h.clo i c e
    refine ⟨v, h1, h2.to hT fun k cs hk' _ => ?_⟩
    rcases hk' with hk' | hk'
    · exact hk hk' (fun _ => ct (by decide)) (fun _ => ct (by decide))
    · exact hk hk' (fun _ => ct (by decide)) (fun _ => ct (by decide))
  · intro k f0 hk0
    simp only at hk0 ⊢
    by_cases hkb : k = b
    · subst hkb
      rw [if_pos rfl] at hk0 ⊢
      cases hk0
      exact ⟨hf, hT _ hfS, hdT⟩
    · rw [if_neg hkb] at hk0 ⊢
      obtain ⟨h1, h2, h3⟩ := h.file k f0 hk0
      refine ⟨h1.to (hs k h1.1.lt hkb fun x hx => by obtain ⟨cur, hcur⟩ := hfa.2.blk x hx; exact kind_ne h1.1 hcur (ct (by decide))) fun x cur e o => ?_, hT _ h2, fun x o => hT _ (h3 x o)⟩
      refine hs x (heap_lt e) (kind_ne e hfa.1 (ct (by decide))) fun y hy hxy => ?_
      subst hxy
      exact h.apart k b hkb (by rw [hk0]; rfl) (by rw [hb]; rfl) x o hy
  · intro k k' hne h1 h2 x hx hx'
    simp only at h1 h2 hx hx'
    by_cases hkb : k = b
    · rw [if_pos hkb] at hx
      rw [if_neg (fun e => hne (by rw [hkb, e]))] at h2 hx'
      have hk' : k' ≠ b := fun e => hne (by rw [hkb, e])
      rcases hd with hd | hd
      · rw [hd] at hx
        exact h.apart k' b hk' h2 (by rw [hb]; rfl) x hx' hx
      · have hge := hd x hx
        obtain ⟨f0, hf0⟩ := Option.isSome_iff_exists.1 h2
        obtain ⟨cur, hcur⟩ := (h.file k' f0 hf0).1.2.blk x hx'
        have := heap_lt hcur; omega
    · rw [if_neg hkb] at h1 hx
      by_cases hkb' : k' = b
      · rw [if_pos hkb'] at hx'
        rcases hd with hd | hd
        · rw [hd] at hx'
          exact h.apart k b hkb h1 (by rw [hb]; rfl) x hx hx'
        · have hge := hd x hx'
          obtain ⟨f0, hf0⟩ := Option.isSome_iff_exists.1 h1
          obtain ⟨cur, hcur⟩ := (h.file k f0 hf0).1.2.blk x hx
          have := heap_lt hcur; omega
      · rw [if_neg hkb'] at h2 hx'
        exact h.apart k k' hne h1 h2 x hx hx'
/-- The directory is sure. -/
theorem FsM.syncd (h : FsM w g S A pv bn bs sv vs dv) (hs : ∀ k, k < w.heap.size → k ≠ g → w'.heap[k]? = w.heap[k]?) (hT : ∀ k, S k → T k) {bs' : Nat}
    (hr : Blk w' g 61 (fsRow A.count A.armed A.left pv A.room A.created bn bs' (.slice none 0 0))) (hd : Dir w' bs' A.now) (hT' : T bs') (hne : w.heap.size ≤ bs') :
    FsM w' g T { A with sure := A.now, since := [] } pv bn bs' (.slice none 0 0) [] dv := by
  have ct : ∀ {cs cs' : Array Value} {t t' : TypeId} {fr fr' : Nat × Nat}, t ≠ t' → Obj.cells cs t fr ≠ .cells cs' t' fr' := fun hne e => by injection e with _ e2 _; exact hne e2
  have hk : ∀ {k : Nat} {o : Obj}, w.heap[k]? = some o → (∀ cs, o ≠ .cells cs 61 (0, 0)) → w'.heap[k]? = w.heap[k]? := fun {k o} e h1 => hs k (heap_lt e) (kind_ne e h.row (h1 _))
  obtain ⟨es, cl, hn, _⟩ := h.now
  refine { row := hr, gS := hT _ h.gS, plan := h.plan.to fun k cur e _ => hk e (fun _ => ct (by decide)), planS := fun k o => hT _ (h.planS k o), now := h.now.to (hk hn (by intro _ e; cases e)), nS := hT _ h.nS, sure := hd, sS := hT', ne := ?_, since := World.ownsRow_nil _ _ _ _, sinceS := (fun k hk => by cases hk), cloL := rfl, clo := (fun i c h => by cases h), file := ?_, apart := h.apart }
  · have := h.now.lt; omega
  · intro b f e
    obtain ⟨h1, h2, h3⟩ := h.file b f e
    exact ⟨h1.to (hk h1.1 (fun _ => ct (by decide))) fun k cur e _ => hk e (fun _ => ct (by decide)), hT _ h2, fun k o => hT _ (h3 k o)⟩
end

def syncA (A : FsA) (s : ByteArray) : FsA × Int :=
  if (findA A s).2 = 0 then doneA A (fun B => { B with file := fun k => if some k = (findA A s).1 then (B.file k).map (fun f => { f with sure := f.data.length }) else B.file k }) else (A, (findA A s).2)
def dirA (A : FsA) : FsA × Int := doneA A (fun B => { B with sure := B.now, since := [] })
/-- Each name is a file's. -/
def Named (A : FsA) : Prop := ∀ s b, dget A.now s = some b → ∃ f, A.file b = some f
theorem findA_ok {A : FsA} {s : ByteArray} (h : (findA A s).2 = 0) (hn : Named A) : ∃ b f, findA A s = (some b, 0) ∧ A.file b = some f := by
  unfold findA at h ⊢
  by_cases hb : nameB s = true
  · rw [if_pos hb] at h ⊢
    cases hd : dget A.now s with
    | none => rw [hd] at h; cases h
    | some b => obtain ⟨f, hf⟩ := hn s b hd; exact ⟨b, f, rfl, hf⟩
  · rw [if_neg hb] at h; cases h

set_option maxRecDepth 100000 in
set_option maxHeartbeats 2000000 in
theorem sync_any (g : Nat) (S : Nat → Prop) (A : FsA) (s : ByteArray) (w : World) (h : Fs w g S A) (hn : Num A) (hnm : Named A) (hs : s.size ≤ 9223372036854775807) :
    Calls Try.prog 17 #[.pointer (some ⟨g, 0, none⟩), .string s] w fun e w' => e = .returned (.int .i64 (syncA A s).2) ∧ Fs w' g S (syncA A s).1 ∧ Keep S w w' := by
  have HF := Lib.hid h
  have HNUM := Lib.hid hn
  have HFI := Lib.hid (find_any g S A s w h hs)
  clear h hn
  go_enter Try.func17, Try.ntmps17
  by_cases hc : (findA A s).2 = 0
  · obtain ⟨b, f, hfi, hfb⟩ := findA_ok hc hnm
    have HR : Hid (syncA A s = doneA A (fun B => { B with file := fun k => if some k = (findA A s).1 then (B.file k).map (fun f => { f with sure := f.data.length }) else B.file k })) := by show _ = _; unfold syncA; rw [if_pos hc]
    rw [hfi] at HR HFI
    have HFB := Lib.hid hfb
    clear hc hnm hfi hfb
    have HFI' : Hid (Calls Try.prog 39 #[.pointer (some ⟨g, 0, none⟩), .string s] w fun e w' => e = .returned (.tuple #[.pointer (some ⟨b, 0, none⟩), .int .i64 0]) ∧ Below w.heap.size w w') := HFI.out
    clear HFI
    go_wp2_with fail
    refine HFI'.out.mono ?_; rintro e w1 ⟨rfl, hb1⟩
    have HF1 := Lib.hid (HF.out.below hb1)
    have HB1 := Lib.hid hb1
    clear hb1
    go_wp2_with fail
    refine (step_any g S A w1 HF1.out HNUM.out).mono ?_; rintro e w2 ⟨rfl, hF2, hb2⟩
    have HK2 := Lib.hid ((Keep.of_below HB1.out : Keep S w w1).trans' (Keep.of_but hb2 HF.out.gS))
    have HF2 := Lib.hid hF2
    have HSAME := Lib.hid (stepA_same A)
    clear hF2 hb2
    by_cases he : (stepA A).2.2 = 0
    · have HD : Hid (∀ F, doneA A F = (F (stepA A).1, 0)) := fun F => by unfold doneA; rw [if_pos he]
      generalize stepA A = st at *
      obtain ⟨A2, k2, e2⟩ := st
      simp only at he HD HF2 HSAME
      subst he
      obtain ⟨pv, bn, bs, sv, vs, dv, hM⟩ := HF2.out
      have hfb2 : A2.file b = some f := by rw [HSAME.out.2.2.2.1]; exact HFB.out
      obtain ⟨hfa, hfS, hfd⟩ := hM.file b f hfb2
      obtain ⟨da, dc, hde⟩ := own_slice hfa.2
      have c1 := hfa.1.cell (i := 1) rfl
      rw [hde] at c1
      have c2 := hfa.1.cell (i := 2) rfl
      have f2 := hfa.1.frozen 2
      have hset := hfa.1.set 2 (.int .i64 (f.data.length : Int))
      have hso : ∀ k, k ≠ b → (w2.setCell ⟨b, 2, none⟩ (.int .i64 (f.data.length : Int))).heap[k]? = w2.heap[k]? := fun k hk => heap_setCell_other w2 ⟨b, 2, none⟩ k _ hk
      have HFIN := Lib.hid (hM.setFile hfb2 (f' := { f with sure := f.data.length }) (d' := dv b) (T := S) (fun _ k => k) (fun k _ hk _ => hso k hk) ⟨hset, ownsRow_to hfa.2 fun k cur e _ => hso k (kind_ne e hfa.1 (fun e => by injection e with _ e2 _; exact absurd e2 (by decide)))⟩ hfd (.inl rfl))
      have HEQ : Hid ({ A2 with file := fun k => if k = b then some { f with sure := f.data.length } else A2.file k } = { A2 with file := fun k => if some k = some b then (A2.file k).map (fun f => { f with sure := f.data.length }) else A2.file k }) := by
        show _ = _
        congr 1
        funext k
        by_cases hk : k = b
        · subst hk; rw [if_pos rfl, if_pos rfl, hfb2]; rfl
        · rw [if_neg hk, if_neg (fun e => hk (Option.some.inj e))]
      have HKF := Lib.hid (HK2.out.trans' (w'' := w2.setCell ⟨b, 2, none⟩ (.int .i64 (f.data.length : Int))) ⟨rfl, rfl, rfl, by simp [World.setCell], fun k _ hk => hso k (fun e => hk (by rw [e]; exact hfS))⟩)
      clear hM hfa hfS hfd hset hso hde hfb2
      go_wp2_with fail
      go_ret
      exact ⟨ret_int (by rw [HR.out, HD.out]), by rw [HR.out, HD.out]; simp only; rw [← HEQ.out]; exact ⟨_, _, _, _, _, _, HFIN.out⟩, HKF.out⟩
    · have HD : Hid (∀ F, doneA A F = ((stepA A).1, (stepA A).2.2)) := fun F => by unfold doneA; rw [if_neg he]
      have he' : ((stepA A).2.2 == 0) = false := by simpa using he
      generalize stepA A = st at *
      obtain ⟨A2, k2, e2⟩ := st
      simp only at he he' HD HF2
      clear he
      go_wp2_with fail
      go_ret
      exact ⟨ret_int (by rw [HR.out, HD.out]), by rw [HR.out, HD.out]; exact HF2.out, HK2.out⟩
  · have HR : Hid (syncA A s = (A, (findA A s).2)) := by show _ = _; unfold syncA; rw [if_neg hc]
    have hc' : ((findA A s).2 == 0) = false := by simpa using hc
    generalize findA A s = fa at *
    obtain ⟨fx, fc⟩ := fa
    simp only at hc hc' HFI HR
    clear hc hnm
    go_wp2_with fail
    refine HFI.out.mono ?_; rintro e w1 ⟨rfl, hb1⟩
    have HF1 := Lib.hid (HF.out.below hb1)
    have HB1 := Lib.hid hb1
    clear hb1
    go_wp2_with fail
    go_ret
    exact ⟨ret_int (by rw [HR.out]), by rw [HR.out]; exact HF1.out, Keep.of_below HB1.out⟩

set_option maxRecDepth 100000 in
set_option maxHeartbeats 1000000 in
theorem mapsClone_any (b : Nat) (D : DataW Unit) (w : World) (h : Dir w b D) :
    Calls Try.prog 33 #[.map (some b)] w fun e w' => e = .returned (.map (some w.heap.size)) ∧ Dir w' w.heap.size D ∧ Below w.heap.size w w' := by
  obtain ⟨es, cl, hb, F, hs, hD⟩ := h
  have hq := fun w => run_eql_map_nil_sl (P := Try.prog) w 54 _ _ (some b) Try.underlying54
  go_enter Try.func33, Try.ntmps33
  go_wp2
  rw [run_callFunc_extern Try.func58 (by kernel_rfl) (by kernel_rfl) (by kernel_rfl) (e := Extern.MapsClone.clone) (by kernel_rfl), run_maps_clone_sl w 54 hb]
  simp only [Result.andThen]
  rw [Oper.upon_value]
  go_wp2
  rw [run_typeAssert_map_sl _ 54 20 _ _ _ Try.underlying54]
  simp only [Result.andThen]
  rw [Oper.upon_value]
  go_wp2
  go_ret
  exact ⟨rfl, ⟨es, cl, (MapKept.heap_alloc w _).1, F, hs, hD⟩, (Below.refl _ w).alloc (Nat.le_refl _) _⟩

set_option maxRecDepth 100000 in
set_option maxHeartbeats 2000000 in
theorem syncDir_any (g : Nat) (S : Nat → Prop) (A : FsA) (w : World) (h : Fs w g S A) (hn : Num A) :
    Calls Try.prog 21 #[.pointer (some ⟨g, 0, none⟩)] w fun e w' => e = .returned (.int .i64 (dirA A).2) ∧ Fs w' g (grow S w w') (dirA A).1 ∧ Keep S w w' := by
  have HF := Lib.hid h
  have HNUM := Lib.hid hn
  clear h hn
  go_enter Try.func21, Try.ntmps21
  go_wp2_with fail
  refine (step_any g S A w HF.out HNUM.out).mono ?_; rintro e w2 ⟨rfl, hF2, hb2⟩
  have HK2 := Lib.hid (Keep.of_but hb2 HF.out.gS)
  have HF2 := Lib.hid hF2
  have HGS := Lib.hid HF.out.gS
  clear hF2 hb2
  by_cases he : (stepA A).2.2 = 0
  · have HD : Hid (dirA A = ({ (stepA A).1 with sure := (stepA A).1.now, since := [] }, 0)) := by show _ = _; unfold dirA doneA; rw [if_pos he]
    generalize stepA A = st at *
    obtain ⟨A2, k2, e2⟩ := st
    simp only at he HD HF2
    subst he
    obtain ⟨pv, bn, bs, sv, vs, dv, hM⟩ := HF2.out
    have c6 := hM.row.cell (i := 6) rfl
    have HM := Lib.hid hM
    clear hM
    go_wp2_with fail
    refine (mapsClone_any bn A2.now w2 HM.out.now).mono ?_; rintro e w3 ⟨rfl, hd3, hB3⟩
    have hr3 := Below.blk hB3 HM.out.row.lt HM.out.row
    have c7' := hr3.cell (i := 7) rfl
    have c8' := hr3.cell (i := 8) rfl
    have f7' := hr3.frozen 7
    have f8' := hr3.frozen 8
    have hset := (hr3.set 7 (.map (some w2.heap.size))).set 8 (.slice none 0 0)
    have hso : ∀ k, k ≠ g → ((w3.setCell ⟨g, 7, none⟩ (.map (some w2.heap.size))).setCell ⟨g, 8, none⟩ (.slice none 0 0)).heap[k]? = w3.heap[k]? := fun k hk =>
      (heap_setCell_other _ ⟨g, 8, none⟩ k _ hk).trans (heap_setCell_other w3 ⟨g, 7, none⟩ k _ hk)
    have hszf : ((w3.setCell ⟨g, 7, none⟩ (.map (some w2.heap.size))).setCell ⟨g, 8, none⟩ (.slice none 0 0)).heap.size = w3.heap.size := by simp [World.setCell]
    have hne : w2.heap.size ≠ g := by have := HM.out.row.lt; omega
    have HFIN := Lib.hid (HM.out.syncd (w' := (w3.setCell ⟨g, 7, none⟩ (.map (some w2.heap.size))).setCell ⟨g, 8, none⟩ (.slice none 0 0)) (T := grow S w ((w3.setCell ⟨g, 7, none⟩ (.map (some w2.heap.size))).setCell ⟨g, 8, none⟩ (.slice none 0 0)))
      (fun k hk hkg => (hso k hkg).trans (hB3.block k hk)) grow_left hset (hd3.to (hso _ hne)) (.inr ⟨HK2.out.size, by rw [hszf]; exact hd3.lt⟩) (Nat.le_refl _))
    have HKF : Hid (Keep S w ((w3.setCell ⟨g, 7, none⟩ (.map (some w2.heap.size))).setCell ⟨g, 8, none⟩ (.slice none 0 0))) :=
      (HK2.out.trans' (Keep.of_below hB3)).trans' ⟨rfl, rfl, rfl, by rw [hszf]; exact Nat.le_refl _, fun k _ hk => hso k (fun e => hk (by rw [e]; exact HGS.out))⟩
    clear hr3 hset hso hszf hne hd3 hB3
    go_wp2_with fail
    go_ret
    exact ⟨ret_int (by rw [HD.out]), by rw [HD.out]; exact ⟨_, _, _, _, _, _, HFIN.out⟩, HKF.out⟩
  · have HD : Hid (dirA A = ((stepA A).1, (stepA A).2.2)) := by show _ = _; unfold dirA doneA; rw [if_neg he]
    have he' : ((stepA A).2.2 == 0) = false := by simpa using he
    generalize stepA A = st at *
    obtain ⟨A2, k2, e2⟩ := st
    simp only at he he' HD HF2
    clear he
    go_wp2_with fail
    go_ret
    exact ⟨ret_int (by rw [HD.out]), by rw [HD.out]; exact HF2.out.to grow_left fun _ _ _ => rfl, HK2.out⟩

/-- What a file's copy of bytes is: in new memory. -/
def Copied (w w' : World) (v : Value) (ys : List Int) : Prop := w'.ownsRow w.heap.size 5 1 v ys.length (ys.map (Value.int .u8)) ∧ Below w.heap.size w w'
theorem bytesClone_any (v : Value) (ys : List Int) (w : World) (h : OwnD w v ys) (hl : ys.length ≤ 1000000) :
    Calls Try.prog 40 #[v] w fun e w' => ∃ v', e = .returned v' ∧ Copied w w' v' ys := by
  rcases h.2 with ⟨rfl, h0⟩ | ⟨x, cap, cur, rfl, _, hx, hcap, _, hcs, hxs⟩
  · have hy : ys = [] := List.length_eq_zero_iff.1 h0
    subst hy
    exact (Try.bytes_Clone_nil 0 0 w).mono fun e w' ⟨he, hw⟩ => ⟨_, he, by subst hw; exact ⟨World.ownsRow_nil _ _ _ _, Below.refl _ _⟩⟩
  · refine (Try.bytes_Clone_at ⟨x, 0, none⟩ ys.length cap ys w rfl (by omega) fun i hi => ?_).mono fun e w' ⟨v', he, ho, _, hB⟩ => ⟨v', he, ho, hB⟩
    have e : Addr.add ⟨x, 0, none⟩ i = ⟨x, i, none⟩ := by unfold Addr.add; by_cases h : i = 0 <;> simp [h]
    rw [e, cell_of_row w x i cur 5 (0, 0) hx, ← Array.getElem?_toList]
    have h1 : (ys.map (Value.int .u8))[i]? = some (.int .u8 (ys.getD i 0)) := by
      rw [List.getElem?_map, List.getD_eq_getElem?_getD, List.getElem?_eq_getElem hi]; rfl
    rw [← hxs, List.getElem?_take_of_lt (by omega)] at h1
    exact h1
def readA (A : FsA) (s : ByteArray) : List Int × Int :=
  if (findA A s).2 = 0 then (match (findA A s).1 with
    | some b => ((A.file b).map (·.data)).getD []
    | none => [], 0) else ([], (findA A s).2)
/-- Files are of a size. -/
def Short (A : FsA) : Prop := ∀ b f, A.file b = some f → f.data.length ≤ 65536 ∧ f.sure ≤ f.data.length
set_option maxRecDepth 100000 in
set_option maxHeartbeats 2000000 in
theorem read_any (g : Nat) (S : Nat → Prop) (A : FsA) (s : ByteArray) (w : World) (h : Fs w g S A) (hnm : Named A) (hsh : Short A) (hs : s.size ≤ 9223372036854775807) :
    Calls Try.prog 14 #[.pointer (some ⟨g, 0, none⟩), .string s] w fun e w' => ∃ v, e = .returned (.tuple #[v, .int .i64 (readA A s).2]) ∧ Copied w w' v (readA A s).1 := by
  have HF := Lib.hid h
  have HFI := Lib.hid (find_any g S A s w h hs)
  clear h
  go_enter Try.func14, Try.ntmps14
  by_cases hc : (findA A s).2 = 0
  · obtain ⟨b, f, hfi, hfb⟩ := findA_ok hc hnm
    have HR : Hid (readA A s = (f.data, 0)) := by show _ = _; unfold readA; rw [if_pos hc, hfi]; simp only [hfb]; rfl
    have HLEN := Lib.hid (hsh b f hfb).1
    rw [hfi] at HFI
    have HFB := Lib.hid hfb
    clear hc hnm hsh hfi hfb
    have HFI' : Hid (Calls Try.prog 39 #[.pointer (some ⟨g, 0, none⟩), .string s] w fun e w' => e = .returned (.tuple #[.pointer (some ⟨b, 0, none⟩), .int .i64 0]) ∧ Below w.heap.size w w') := HFI.out
    clear HFI
    go_wp2_with fail
    refine HFI'.out.mono ?_; rintro e w1 ⟨rfl, hb1⟩
    obtain ⟨pv, bn, bs, sv, vs, dv, hM⟩ := HF.out.below hb1
    obtain ⟨hfa, hfS, hfd⟩ := hM.file b f HFB.out
    obtain ⟨da, dc, hde⟩ := own_slice hfa.2
    have c1 := hfa.1.cell (i := 1) rfl
    have HO := Lib.hid hfa.2
    have HB1 := Lib.hid hb1
    rw [hde] at c1 HO
    clear hM hfa hfS hfd hde hb1
    go_wp2_with fail
    refine (bytesClone_any _ f.data w1 HO.out (by have := HLEN.out; omega)).mono ?_; rintro e w2 ⟨v', rfl, hcp⟩
    obtain ⟨va, vc, rfl⟩ := own_slice hcp.1
    have HCP := Lib.hid hcp
    clear hcp
    go_wp2_with fail
    go_ret2
    refine ⟨.slice va f.data.length vc, by rw [HR.out]; rfl, ?_⟩
    rw [HR.out]
    refine ⟨⟨HCP.out.1.1, ?_⟩, HB1.out.trans (HCP.out.2.mono HB1.out.size)⟩
    rcases HCP.out.1.2 with hq | ⟨x, cap, cur, h1, h2, h3⟩
    · exact .inl hq
    · exact .inr ⟨x, cap, cur, h1, Nat.le_trans HB1.out.size h2, h3⟩
  · have HR : Hid (readA A s = ([], (findA A s).2)) := by show _ = _; unfold readA; rw [if_neg hc]
    have hc' : ((findA A s).2 == 0) = false := by simpa using hc
    generalize findA A s = fa at *
    obtain ⟨fx, fc⟩ := fa
    simp only at hc hc' HFI HR
    clear hc hnm hsh
    go_wp2_with fail
    refine HFI.out.mono ?_; rintro e w1 ⟨rfl, hb1⟩
    have HB1 := Lib.hid hb1
    clear hb1
    go_wp2_with fail
    go_ret2
    exact ⟨.slice none 0 0, by rw [HR.out]; rfl, by rw [HR.out]; exact ⟨World.ownsRow_nil _ _ _ _, HB1.out⟩⟩
end Go.Proofs.Ytpfbiijcmmkjlaa
