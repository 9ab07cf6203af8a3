/- Package simfs: 'change', 'find', 'New'. -/
import Derived.Test.YtpfbiijcmmkjlaaFsD
namespace Go.Proofs.Ytpfbiijcmmkjlaa
open Go.RowKit Go.Maps Go.WideMaps

section
variable {w w' : World} {g : Nat} {S T : Nat → Prop} {A : FsA} {pv : Value} {bn bs : Nat} {sv : Value} {vs : List Value} {dv : Nat → Value}
theorem heap_lt {k : Nat} {o : Obj} (e : w.heap[k]? = some o) : k < w.heap.size := by
  by_cases c : k < w.heap.size
  · exact c
  · rw [Array.getElem?_eq_none (by omega)] at e; cases e
/-- The directory alone is turned. -/
theorem FsM.turn (h : FsM w g S A pv bn bs sv vs dv) (hg : w.grownBy w' (some bn)) {D : DataW Unit} (hd : Dir w' bn D) : FsM w' g S { A with now := D } pv bn bs sv vs dv := by
  obtain ⟨es, cl, hn, _⟩ := h.now
  have hs : ∀ {k : Nat} {cs : Array Value} {t : TypeId} {fr : Nat × Nat}, w.heap[k]? = some (.cells cs t fr) → w'.heap[k]? = w.heap[k]? := fun {k cs t fr} e =>
    hg.block k (heap_lt e) (fun x => kind_ne e hn (by intro y; cases y) (Option.some.inj x))
  have hsu := h.sure
  refine { row := Blk.of (hs h.row) h.row, gS := h.gS, plan := h.plan.to fun k cur e _ => hs e, planS := h.planS, now := hd, nS := h.nS, sure := h.sure.to ?_, sS := h.sS, ne := h.ne, since := ownsRow_to h.since fun k cur e _ => hs e, sinceS := h.sinceS, cloL := h.cloL, clo := ?_, file := ?_, apart := h.apart }
  · exact hg.block bs h.sure.lt (fun x => h.ne (Option.some.inj x).symm)
  · intro i c e
    obtain ⟨v, h1, h2⟩ := h.clo i c e
    refine ⟨v, h1, h2.to (fun _ k => k) fun k cs hk _ => ?_⟩
    rcases hk with hk | hk
    · exact hs hk
    · exact hs hk
  · intro b f e
    obtain ⟨h1, h2, h3⟩ := h.file b f e
    exact ⟨h1.to (hs h1.1) fun k cur e _ => hs e, h2, h3⟩
/-- One more change is kept. -/
theorem FsM.more (h : FsM w g S A pv bn bs sv vs dv) (hs : ∀ k, k < w.heap.size → k ≠ g → (∀ x, sv.ownBlock = some x → k ≠ x) → w'.heap[k]? = w.heap[k]?) (hT : ∀ k, S k → T k)
    {sv' : Value} {v : Value} {c : Chg} (hr : Blk w' g 61 (fsRow A.count A.armed A.left pv A.room A.created bn bs sv'))
    (ho : w'.ownsRow 0 80 1 sv' (vs ++ [v]).length (vs ++ [v])) (hoS : ∀ k, sv'.ownBlock = some k → T k) (hc : Clo w' T v c) : FsM w' g T { A with since := A.since ++ [c] } pv bn bs sv' (vs ++ [v]) dv := by
  have hsv : ∀ x, sv.ownBlock = some x → ∃ cur, w.heap[x]? = some (.cells cur 80 (0, 0)) := by
    intro x hx
    rcases h.since.2 with ⟨hv, _⟩ | ⟨y, cap, cur, hv, _, hy, _⟩
    · rw [hv] at hx; cases hx
    · rw [hv] at hx; cases hx; exact ⟨cur, hy⟩
  have hk : ∀ {k : Nat} {o : Obj}, w.heap[k]? = some o → (∀ cs, o ≠ .cells cs 61 (0, 0)) → (∀ cs, o ≠ .cells cs 80 (0, 0)) → w'.heap[k]? = w.heap[k]? := fun {k o} e h1 h2 =>
    hs k (heap_lt e) (kind_ne e h.row (h1 _)) fun x hx => by obtain ⟨cur, hcur⟩ := hsv x hx; exact kind_ne e hcur (h2 _)
  have ct : ∀ {cs cs' : Array Value} {t t' : TypeId} {fr fr' : Nat × Nat}, t ≠ t' → Obj.cells cs t fr ≠ .cells cs' t' fr' := fun hne e => by injection e with _ e2 _; exact hne e2
  obtain ⟨es, cl, hn, _⟩ := h.now
  obtain ⟨es', cl', hsu, _⟩ := h.sure
  refine { row := hr, gS := hT _ h.gS, plan := h.plan.to fun k cur e _ => hk e (fun _ => ct (by decide)) (fun _ => ct (by decide)), planS := fun k o => hT _ (h.planS k o), now := h.now.to (hk hn (by intro _ e; cases e) (by intro _ e; cases e)), nS := hT _ h.nS, sure := h.sure.to (hk hsu (by intro _ e; cases e) (by intro _ e; cases e)), sS := hT _ h.sS, ne := h.ne, since := ho, sinceS := hoS, cloL := by simp [h.cloL], clo := ?_, file := ?_, apart := h.apart }
  · intro i d e
    have e' : (A.since ++ [c])[i]? = some d := e
    by_cases hi : i < A.since.length
    · rw [List.getElem?_append_left hi] at e'
      obtain ⟨u, h1, h2⟩ := h.clo i d e'
      refine ⟨u, by rw [List.getElem?_append_left (by rw [h.cloL]; exact hi)]; exact h1, h2.to hT fun k cs hkk _ => ?_⟩
      rcases hkk with hkk | hkk
      · exact hk hkk (fun _ => ct (by decide)) (fun _ => ct (by decide))
      · exact hk hkk (fun _ => ct (by decide)) (fun _ => ct (by decide))
    · rw [List.getElem?_append_right (by omega)] at e'
      have hi0 : i - A.since.length = 0 := by
        have := (List.getElem?_eq_some_iff.1 e').1
        simp at this; omega
      rw [hi0] at e'
      have hcd : c = d := by simpa using e'
      subst hcd
      exact ⟨v, by rw [List.getElem?_append_right (by rw [h.cloL]; omega), h.cloL, hi0]; rfl, hc⟩
  · intro b f e
    obtain ⟨h1, h2, h3⟩ := h.file b f e
    exact ⟨h1.to (hk h1.1 (fun _ => ct (by decide)) (fun _ => ct (by decide))) fun k cur e _ => hk e (fun _ => ct (by decide)) (fun _ => ct (by decide)), hT _ h2, fun k o => hT _ (h3 k o)⟩
end

theorem own_slice {w : World} {base : Nat} {e size : Nat} {v : Value} {n : Nat} {xs : List Value} (h : w.ownsRow base e size v n xs) : ∃ a c, v = .slice a n c := by
  rcases h.2 with ⟨rfl, rfl⟩ | ⟨g, cap, cur, rfl, _⟩
  · exact ⟨_, _, rfl⟩
  · exact ⟨_, _, rfl⟩
theorem fnInfo : (Try.prog.info? 80).map (fun i => (i.zero, i.size, i.bytes)) = some (some .nilFunc, 1, 8) := by kernel_rfl

set_option maxHeartbeats 4000000 in
theorem change_any (g : Nat) (S : Nat → Prop) (A : FsA) (v : Value) (c : Chg) (w : World) (h : Fs w g S A) (hc : Clo w S v c) (hz : Maps.size A.now < 1000000) (hl : A.since.length < 1000000) :
    Calls Try.prog 43 #[.pointer (some ⟨g, 0, none⟩), v] w fun e w' => e = .returned (.tuple #[]) ∧ Fs w' g (grow S w w') { A with now := c.ap A.now, since := A.since ++ [c] } ∧ Keep S w w' := by
  obtain ⟨pv, bn, bs, sv, vs, dv, h⟩ := h
  obtain ⟨i0, hi, hz0, hz1, hz2⟩ := info_parts fnInfo
  have HI := Lib.hid hi
  have HZ0 := Lib.hid hz0
  have HZ1 := Lib.hid hz1
  have HZ2 := Lib.hid hz2
  clear hi hz0 hz1 hz2
  have c6 := h.row.cell (i := 6) rfl
  have HM := Lib.hid h
  have HC := Lib.hid hc
  have hD := h.now
  have hvl : vs.length < 1000000 := by rw [h.cloL]; exact hl
  have hov : v.oneCell' = true := by cases c <;> (first | (obtain ⟨_, _, rfl, _⟩ := hc; rfl) | (obtain ⟨_, rfl, _⟩ := hc; rfl))
  have HO := Lib.hid hov
  obtain ⟨fn, cap, hv, heg, hf⟩ : ∃ fn cap, v = .func (.func fn) #[] cap ∧ (∀ args w, (callFunc fn args).run Try.prog w = .ok (.enter fn args) w) ∧ Calls Try.prog fn (#[.map (some bn)] ++ cap) w fun e w' => e = .returned (.tuple #[]) ∧ Dir w' bn (c.ap A.now) ∧ w.grownBy w' (some bn) := by
    cases c with
    | create n b => obtain ⟨xb, nb, hv, h2, h3, _, _, h6⟩ := hc; exact ⟨_, _, hv, enters_of Try.func66 (by kernel_rfl) rfl, create1_any xb nb bn n b A.now w h2 h3 h6 hD hz⟩
    | rename a b => obtain ⟨xa, xb, hv, h2, h3, _, _, h6, h7⟩ := hc; exact ⟨_, _, hv, enters_of Try.func67 (by kernel_rfl) rfl, rename1_any xa xb bn a b A.now w h2 h3 h6 h7 hD hz⟩
    | remove a => obtain ⟨xa, hv, h2, _, h6⟩ := hc; exact ⟨_, _, hv, enters_of Try.func68 (by kernel_rfl) rfl, remove1_any xa bn a A.now w h2 h6 hD⟩
  have HF := Lib.hid hf
  clear h hc hov hf hD
  subst hv
  have HVL := Lib.hid hvl
  have HL := Lib.hid hl
  clear hvl hl hz
  go_enter Try.func43, Try.ntmps43
  go_wp2_with fail
  refine HF.out.mono ?_; rintro e w1 ⟨rfl, hd1, hg1⟩
  have M1 := HM.out.turn hg1 hd1
  have hcl1 : Clo w1 S (.func (.func fn) #[] cap) c := HC.out.to (fun _ k => k) fun k cs hk _ => by
    obtain ⟨es, cl, hn, _⟩ := HM.out.now
    rcases hk with hk | hk
    · exact hg1.block k (heap_lt hk) (fun x => kind_ne hk hn (by intro y; cases y) (Option.some.inj x))
    · exact hg1.block k (heap_lt hk) (fun x => kind_ne hk hn (by intro y; cases y) (Option.some.inj x))
  have hK1 : Keep S w w1 := Keep.of_grown hg1 fun x hx => by cases hx; exact HM.out.nS
  clear hd1 hg1
  obtain ⟨sa, sc, rfl⟩ := own_slice M1.since
  have c8 := M1.row.cell (i := 8) rfl
  have HOW := Lib.hid (World.ownsRow.alloc M1.since (.cells #[.func (.func fn) #[] cap] 80))
  have HM1 := Lib.hid M1
  have HCL := Lib.hid hcl1
  have HK := Lib.hid hK1
  clear M1 hcl1 hK1 heg
  have H63 : Hid (vs.length + 1 ≤ maxLen) := by show _ ≤ _; have := HVL.out; unfold maxLen; omega
  have HBY : Hid ((vs.length + 1) * 8 ≤ 140737488355328) := by show _ ≤ _; have := HVL.out; omega
  have HON : Hid (∀ u ∈ [Value.func (.func fn) #[] cap], u.oneCell' = true) := fun u hu => by obtain rfl := List.mem_singleton.1 hu; exact HO.out
  go_wp2_with (with_reducible refine wpList_append_own_at _ rfl (.tmp 14) (.tmp 16) 59 rfl 0 80 i0 .nilFunc 1 8 Try.underlying59 HI.out HZ0.out HZ1.out HZ2.out rfl (by decide) (.slice sa vs.length sc) vs.length vs rfl HOW.out ⟨w1.heap.size, 0, none⟩ 1 1 [.func (.func fn) #[] cap] rfl rfl (cell_one_new _ _ _) HON.out H63.out HBY.out (Nat.zero_le _) ?_)
  intro v' w2 ho2 hg2 _ hloc
  obtain ⟨va, vc, rfl⟩ := own_slice ho2
  have hz1 : w1.heap.size < (w1.alloc (.cells #[.func (.func fn) #[] cap] 80)).heap.size := by simp
  have hsame : ∀ k, k < w1.heap.size → (∀ x, (Value.slice sa vs.length sc).ownBlock = some x → k ≠ x) → w2.heap[k]? = w1.heap[k]? := fun k hk hne =>
    (hg2.block k (by omega) (fun e => hne k e.symm rfl)).trans (Below.heap_alloc _ _ k hk)
  have hgne : ∀ x, (Value.slice sa vs.length sc).ownBlock = some x → g ≠ x := by
    intro x hx
    rcases HM1.out.since.2 with ⟨hv, _⟩ | ⟨y, cap', cur, hv, _, hy, _⟩
    · rw [hv] at hx; cases hx
    · rw [hv] at hx; cases hx
      exact kind_ne HM1.out.row hy (fun e => by injection e with _ e2 _; exact absurd e2 (by decide))
  have hr2 : Blk w2 g 61 (fsRow A.count A.armed A.left pv A.room A.created bn bs (.slice sa vs.length sc)) := Blk.of (hsame g HM1.out.row.lt hgne) HM1.out.row
  have f8 := hr2.frozen 8
  have c8' := hr2.cell (i := 8) rfl
  have hS : ∀ k, S k → k < w1.heap.size → True := fun _ _ _ => trivial
  have hgsz := hg2.size
  have hsa : Keep S w1 w2 := ⟨hg2.os, hg2.tape, hg2.output, by omega, fun k hk hS => hsame k hk fun x hx e => hS (by rw [e]; exact HM1.out.sinceS x hx)⟩
  have HFIN : Hid (FsM (w2.setCell ⟨g, 8, none⟩ (.slice va (vs.length + 1) vc)) g (grow S w1 w2) { A with now := c.ap A.now, since := A.since ++ [c] } pv bn bs (.slice va (vs.length + 1) vc) (vs ++ [.func (.func fn) #[] cap]) dv) := by
    have hset : ∀ k, k ≠ g → (w2.setCell ⟨g, 8, none⟩ (.slice va (vs.length + 1) vc)).heap[k]? = w2.heap[k]? := fun k hk => heap_setCell_other w2 ⟨g, 8, none⟩ k _ hk
    refine HM1.out.more (A := { A with now := c.ap A.now }) (c := c) (fun k hk hkg hks => (hset k hkg).trans (hsame k hk hks)) (fun k hk => .inl hk) (hr2.set 8 _) ?_ ?_ ?_
    · rw [List.length_append]
      refine ownsRow_to ho2 fun k cur e _ => hset k (kind_ne e hr2 (fun e => by injection e with _ e2 _; exact absurd e2 (by decide)))
    · intro k hk
      rcases hloc with h | h
      · exact .inl (HM1.out.sinceS k (by rw [← h]; exact hk))
      · rw [hk] at h
        obtain rfl := Option.some.inj h
        refine .inr ⟨by simp, ?_⟩
        rcases ho2.2 with ⟨hv, _⟩ | ⟨y, cap', cur, hv, _, hy, _⟩
        · rw [hv] at hk; cases hk
        · rw [hv] at hk; cases hk; exact heap_lt hy
    · refine HCL.out.to (fun k hk => .inl hk) fun k cs hk _ => ?_
      have hks : ∀ x, (Value.slice sa vs.length sc).ownBlock = some x → ∃ cur, w1.heap[x]? = some (.cells cur 80 (0, 0)) := by
        intro x hx
        rcases HM1.out.since.2 with ⟨hv, _⟩ | ⟨y, cap', cur, hv, _, hy, _⟩
        · rw [hv] at hx; cases hx
        · rw [hv] at hx; cases hx; exact ⟨cur, hy⟩
      rcases hk with hk | hk
      · exact (hset k (kind_ne hk HM1.out.row (fun e => by injection e with _ e2 _; exact absurd e2 (by decide)))).trans (hsame k (heap_lt hk) fun x hx => by obtain ⟨cur, hcur⟩ := hks x hx; exact kind_ne hk hcur (fun e => by injection e with _ e2 _; exact absurd e2 (by decide)))
      · exact (hset k (kind_ne hk HM1.out.row (fun e => by injection e with _ e2 _; exact absurd e2 (by decide)))).trans (hsame k (heap_lt hk) fun x hx => by obtain ⟨cur, hcur⟩ := hks x hx; exact kind_ne hk hcur (fun e => by injection e with _ e2 _; exact absurd e2 (by decide)))
  have hKf : Keep S w (w2.setCell ⟨g, 8, none⟩ (.slice va (vs.length + 1) vc)) := (HK.out.trans' hsa).trans' ⟨rfl, rfl, rfl, by simp [World.setCell], fun k hk hS => heap_setCell_other w2 ⟨g, 8, none⟩ k _ (fun e => hS (by rw [e]; exact HM.out.gS))⟩
  have HKF := Lib.hid hKf
  have hszf : (w2.setCell ⟨g, 8, none⟩ (.slice va (vs.length + 1) vc)).heap.size = w2.heap.size := by simp [World.setCell]
  have HG : Hid (∀ k, grow S w1 w2 k → grow S w (w2.setCell ⟨g, 8, none⟩ (.slice va (vs.length + 1) vc)) k) := by
    intro k hk
    rcases hk with hk | hk
    · exact .inl hk
    · exact .inr ⟨Nat.le_trans HK.out.size hk.1, by rw [hszf]; exact hk.2⟩
  clear hKf hsa hS hgne hsame hloc ho2 hg2 hr2 hszf hgsz hz1
  go_wp2_with fail
  go_end0
  exact ⟨rfl, ⟨_, _, _, _, _, _, HFIN.out.to HG.out fun _ _ _ => rfl⟩, HKF.out⟩
end Go.Proofs.Ytpfbiijcmmkjlaa
