/- Package simfs: Plan with an argument that may be empty and point anywhere. -/
import Derived.Test.YtigbgajelkknbaaGreatDoorMlB
namespace Go.Proofs.YtigbgajelkknbaaGreatDoor
open Go.RowKit Go.Maps Go.WideMaps
set_option maxRecDepth 100000

theorem eql_nil_some (a : Addr) (n c : Nat) (w : World) : (binOp .eql 23 (.slice (some a) n c) (.slice none 0 0)).run Tryz.prog w = .ok (.bool false) w := by
  obtain ⟨b, o, s⟩ := a
  go_simp
  all_goals rfl
set_option maxHeartbeats 1000000 in
theorem planCloneW_any (v : Value) (l : List Int) (w : World) (h : RPlan w v l) (hl : l.length ≤ 1000) :
    Calls Tryz.prog 90 #[v] w fun e w' => ∃ v', e = .returned v' ∧ PlanAt w' v' l ∧ (∀ k, v'.ownBlock = some k → w.heap.size ≤ k) ∧ (∃ a c, v' = .slice a l.length c) ∧ Below w.heap.size w w' := by
  rcases h with h | ⟨a, rfl, rfl⟩ | ⟨b, o, c, h1, h2, h3, h4⟩
  · exact planClone_any v l w (.inl h) hl
  · have hb : Below w.heap.size w (w.alloc (.cells #[] 3)) := (Below.refl _ _).alloc (Nat.le_refl _) _
    have HB := Lib.hid hb
    have HE := Lib.hid (fun (W : World) => eql_nil_some a 0 0 W)
    have he := fun (W : World) => HE.out W
    clear hb
    go_enter Tryz.func90, Tryz.ntmps90
    go_wp2_with (at_builtin; refine wpList_append_ints rfl _ _ rfl w.heap.size _ _ [] [] rfl (OwnI.empty w) rfl (.inr (.inl ⟨a, rfl, rfl⟩)) (Below.refl _ _) (by simp) HB.out.size ?_; rintro v2 w2 ho2 hg2)
    obtain ⟨h1, h2, h3⟩ := ints_plan ho2
    have hb2 : Below w.heap.size w w2 := HB.out.trans ⟨hg2.os, hg2.tape, hg2.output, by have := hg2.size; have := HB.out.size; omega, fun k hk => hg2.block k (by have := HB.out.size; omega) (fun e => by
      have e : some k = some w.heap.size := e
      cases e
      omega)⟩
    go_ret
    exact ⟨_, rfl, h1, h2, h3, hb2⟩
  · exact planClone_any v l w (.inr ⟨b, o, c, h1, h3, h4⟩) hl
set_option maxHeartbeats 1000000 in
theorem planW_any (g : Nat) (S : Nat → Prop) (A : FsA) (v : Value) (l : List Int) (w : World) (h : Fs w g S A) (hv : RPlan w v l) (hl : l.length ≤ 1000) :
    Calls Tryz.prog 40 #[.pointer (some ⟨g, 3, none⟩), v] w fun e w' => e = .returned (.tuple #[]) ∧ Fs w' g (grow S w w') { A with plan := l } ∧ Keep S w w' := by
  obtain ⟨va, vc, rfl⟩ := hv.slice
  have HC := Lib.hid (planCloneW_any _ l w hv hl)
  have HF := Lib.hid h
  clear h hv
  go_enter Tryz.func40, Tryz.ntmps40
  go_wp2_with fail
  refine HC.out.mono ?_; rintro e w1 ⟨v', rfl, hp, hpo, ⟨pa, pc, rfl⟩, hb⟩
  obtain ⟨pv, bn, bs, sv, vs, dv, hM⟩ := HF.out
  have hM1 := hM.to (w' := w1) (T := grow S w w1) (fun k hk => .inl hk) (fun k _ hlt => hb.block k hlt)
  have f3 := hM1.row.frozen 3
  have c3 := hM1.row.cell (i := 3) rfl
  have hset := hM1.row.set 3 (.slice pa l.length pc)
  have hbut : But w1.heap.size g w1 (w1.setCell ⟨g, 3, none⟩ (.slice pa l.length pc)) := (But.refl _ g _).setCell (p := ⟨g, 3, none⟩) (.inr rfl) _
  have hpb : ∀ k, (Value.slice pa l.length pc).ownBlock = some k → w.heap.size ≤ k ∧ k < w1.heap.size := fun k hk => ⟨hpo k hk, by
    rcases hp with ⟨h0, _⟩ | ⟨pb, po, cap, cur, h0, _, h2, _⟩
    · rw [h0] at hk; cases hk
    · rw [h0] at hk; cases hk; exact (Array.getElem?_eq_some_iff.1 h2).1⟩
  have hfin := hM1.head hbut A.count A.armed A.left A.created l (.slice pa l.length pc) hset (hp.to fun k cur e _ => hbut.block k (heap_lt e) (kind_ne e hM1.row (fun e => by injection e with _ e2 _; exact absurd e2 (by decide)))) (fun k hk => .inr (hpb k hk))
  have HFIN : Hid (Fs (w1.setCell ⟨g, 3, none⟩ (.slice pa l.length pc)) g (grow S w (w1.setCell ⟨g, 3, none⟩ (.slice pa l.length pc))) { A with plan := l }) :=
    Fs.to ⟨_, _, _, _, _, _, hfin⟩ (fun k hk => hk.imp id fun h => ⟨h.1, by rw [World.size_setCell]; exact h.2⟩) fun _ _ _ => rfl
  have HK : Hid (Keep S w (w1.setCell ⟨g, 3, none⟩ (.slice pa l.length pc))) := (Keep.of_below hb).trans' (Keep.of_but hbut hM.gS)
  clear hp hpo hb hM hM1 hset hbut hpb hfin
  go_wp2_with fail
  go_end0
  exact ⟨rfl, HFIN.out, HK.out⟩
theorem planW_pf {w0 w : World} {g : Nat} {S : Nat → Prop} {A : FsA} (v : Value) (l : List Int) (h : PF w0 w g S A) (hv : RPlan w v l) (hl : l.length ≤ 1000) :
    Calls Tryz.prog 40 #[.pointer (some ⟨g, 3, none⟩), v] w fun e w' => Done w0 w g S { A with plan := l } (.tuple #[]) e w' :=
  (planW_any g S A v l w h.fs hv hl).mono fun _e _w' ⟨he, hF, hK⟩ => ⟨_, he, h.next hF hK⟩
/-- What stands between a Save and the next: the file system holds m, now and whatever is lost; so does the box. -/
structure SwapAt (w0 wr : World) (b9 n g : Nat) (S : Nat → Prop) (A : FsA) (m : Option (Int × List Int)) (lv : Int) (lu : Value) : Prop where
  pf : PF w0 wr g S A
  inv : Inv A n
  armed : A.armed = false
  all : AllM A (bytM m)
  blk : Blk wr b9 61 [.int .i64 lv, lu]
  no : ¬ S b9
  ge : w0.heap.size ≤ b9
  is : m = none ∨ ∃ ns, m = some (lv, ns) ∧ GoodM lv ns ∧ Ints w0 lu ns
section
variable {w0 wr w' : World} {b9 n n' g g' : Nat} {S S' : Nat → Prop} {A A' : FsA} {m : Option (Int × List Int)} {lv : Int} {lu : Value}
theorem SwapAt.below (h : SwapAt w0 wr b9 n g S A m lv lu) (hb : Below wr.heap.size wr w') : SwapAt w0 w' b9 n g S A m lv lu :=
  ⟨h.pf.below hb, h.inv, h.armed, h.all, blk_stay hb h.blk, h.no, h.ge, h.is⟩
theorem SwapAt.mono (h : SwapAt w0 wr b9 n g S A m lv lu) (hn : n ≤ n') : SwapAt w0 wr b9 n' g S A m lv lu := ⟨h.pf, h.inv.mono hn, h.armed, h.all, h.blk, h.no, h.ge, h.is⟩
theorem SwapAt.set {v : Int} {u : Value} {ns : List Int} (h : SwapAt w0 wr b9 n g S A m lv lu) (ha : AllM A (some (manB v ns))) (hg : GoodM v ns) (hu : Ints w0 u ns) :
    SwapAt w0 ((wr.setCell ⟨b9, 0, none⟩ (.int .i64 v)).setCell ⟨b9, 1, none⟩ u) b9 n g S A (some (v, ns)) v u :=
  ⟨h.pf.box (((But.refl _ b9 _).setCell (p := ⟨b9, 0, none⟩) (.inr rfl) _).setCell (p := ⟨b9, 1, none⟩) (.inr rfl) _) h.no h.ge, h.inv, h.armed, ha, (h.blk.set 0 _).set 1 _, h.no, h.ge, .inr ⟨ns, rfl, hg, hu⟩⟩
end
end Go.Proofs.YtigbgajelkknbaaGreatDoor
