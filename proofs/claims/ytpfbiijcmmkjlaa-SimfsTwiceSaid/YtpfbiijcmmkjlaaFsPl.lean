/- Package simfs: 'Plan'; every call, with the blocks that it may change. -/
import Derived.Test.YtpfbiijcmmkjlaaFsZ
namespace Go.Proofs.Ytpfbiijcmmkjlaa
open Go.RowKit Go.Maps Go.WideMaps

theorem ints_plan {w : World} {base : Nat} {v : Value} {l : List Int} (h : w.ownsRow base 3 1 v l.length (l.map (Value.int .i64))) : PlanAt w v l ∧ (∀ k, v.ownBlock = some k → base ≤ k) ∧ ∃ a c, v = .slice a l.length c := by
  rcases h.2 with ⟨rfl, h0⟩ | ⟨x, cap, cur, rfl, hb, hh, h1, h2, h3, h4⟩
  · exact ⟨.inl ⟨rfl, List.length_eq_zero_iff.1 h0⟩, fun k hk => (by cases hk), none, 0, by rw [h0]⟩
  · refine ⟨.inr ⟨x, 0, cap, cur, rfl, h1, hh, fun j u hu => ?_⟩, fun k hk => (by cases hk; exact hb), _, _, rfl⟩
    have hj : j < l.length := (List.getElem?_eq_some_iff.1 hu).1
    have h5 : (l.map (Value.int .i64))[j]? = some (.int .i64 u) := by rw [List.getElem?_map, hu]; rfl
    rw [← h4, List.getElem?_take_of_lt (by omega)] at h5
    rw [Nat.zero_add, ← Array.getElem?_toList]; exact h5
theorem planClone_any (v : Value) (l : List Int) (w : World) (h : Ints w v l) (hl : l.length ≤ 1000) :
    Calls Try.prog 56 #[v] w fun e w' => ∃ v', e = .returned v' ∧ PlanAt w' v' l ∧ (∀ k, v'.ownBlock = some k → w.heap.size ≤ k) ∧ (∃ a c, v' = .slice a l.length c) ∧ Below w.heap.size w w' := by
  rcases h with ⟨rfl, rfl⟩ | ⟨pb, po, cap, rfl, hb, hr⟩
  · exact (Try.slices_Clone_int_nil 0 0 w).mono fun e w' ⟨he, hw⟩ => ⟨_, he, .inl ⟨rfl, rfl⟩, fun k hk => (by cases hk), ⟨none, 0, rfl⟩, by rw [hw]; exact Below.refl _ _⟩
  · refine (Try.slices_Clone_int pb po l.length cap l w (Nat.le_refl _) (by omega) fun j hj => hr j _ ?_).mono fun e w' ⟨v', he, ho, _, hB⟩ => ?_
    · rw [List.getElem?_map, List.getD_eq_getElem?_getD, List.getElem?_eq_getElem hj]; rfl
    · rw [List.take_of_length_le (Nat.le_refl _)] at ho
      obtain ⟨h1, h2, h3⟩ := ints_plan ho
      exact ⟨v', he, h1, h2, h3, hB⟩
set_option maxRecDepth 100000 in
set_option maxHeartbeats 1000000 in
theorem plan_any (g : Nat) (S : Nat → Prop) (A : FsA) (v : Value) (l : List Int) (w : World) (h : Fs w g S A) (hv : Ints w v l) (hl : l.length ≤ 1000) :
    Calls Try.prog 29 #[.pointer (some ⟨g, 3, none⟩), v] w fun e w' => e = .returned (.tuple #[]) ∧ Fs w' g (grow S w w') { A with plan := l } ∧ Keep S w w' := by
  obtain ⟨va, vc, rfl⟩ := hv.slice
  have HC := Lib.hid (planClone_any _ l w hv hl)
  have HF := Lib.hid h
  clear h hv
  go_enter Try.func29, Try.ntmps29
  go_wp2_with fail
  refine HC.out.mono ?_; rintro e w1 ⟨v', rfl, hp, hpo, ⟨pa, pc, rfl⟩, hb⟩
  obtain ⟨pv, bn, bs, sv, vs, dv, hM⟩ := HF.out
  have hM1 := hM.to (w' := w1) (T := grow S w w1) (fun k hk => .inl hk) (fun k _ hlt => hb.block k hlt)
  have f3 := hM1.row.frozen 3
  have c3 := hM1.row.cell (i := 3) rfl
  have hset := hM1.row.set 3 (.slice pa l.length pc)
  have hbut : But w1.heap.size g w1 (w1.setCell ⟨g, 3, none⟩ (.slice pa l.length pc)) := (But.refl _ g _).setCell (p := ⟨g, 3, none⟩) (.inr rfl) _
  have hpb : ∀ k, (Value.slice pa l.length pc).ownBlock = some k → w.heap.size ≤ k ∧ k < w1.heap.size := fun k hk => ⟨hpo k hk, by
    rcases hp with ⟨h0, _⟩ | ⟨pb, po, cap, cur, h0, _, h2, _⟩
    · rw [h0] at hk; cases hk
    · rw [h0] at hk; cases hk; exact (Array.getElem?_eq_some_iff.1 h2).1⟩
  have hfin := hM1.head hbut A.count A.armed A.left A.created l (.slice pa l.length pc) hset (hp.to fun k cur e _ => hbut.block k (heap_lt e) (kind_ne e hM1.row (fun e => by injection e with _ e2 _; exact absurd e2 (by decide)))) (fun k hk => .inr (hpb k hk))
  have HFIN : Hid (Fs (w1.setCell ⟨g, 3, none⟩ (.slice pa l.length pc)) g (grow S w (w1.setCell ⟨g, 3, none⟩ (.slice pa l.length pc))) { A with plan := l }) :=
    Fs.to ⟨_, _, _, _, _, _, hfin⟩ (fun k hk => hk.imp id fun h => ⟨h.1, by rw [World.size_setCell]; exact h.2⟩) fun _ _ _ => rfl
  have HK : Hid (Keep S w (w1.setCell ⟨g, 3, none⟩ (.slice pa l.length pc))) := (Keep.of_below hb).trans' (Keep.of_but hbut hM.gS)
  clear hp hpo hb hM hM1 hset hbut hpb hfin
  go_wp2_with fail
  go_end0
  exact ⟨rfl, HFIN.out, HK.out⟩
end Go.Proofs.Ytpfbiijcmmkjlaa
