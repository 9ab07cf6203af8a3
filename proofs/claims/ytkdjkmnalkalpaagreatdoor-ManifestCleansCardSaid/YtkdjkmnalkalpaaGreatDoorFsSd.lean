/- Package simfs: 'Plan'; every call, with the blocks that it may change. Package simfs and the reference of layer 2: when they tell the same. Plain; nothing is walked. Package simfs and the reference of layer 2: each call keeps them telling the same, and answers the same. Plain; nothing is walked. Package simfs and the reference of layer 2: a crash leaves what tells the same; what holds of every file system, call by call. Plain; nothing is walked. Package simfs: every call, with the blocks that it may change. -/
import Derived.Test.YtkdjkmnalkalpaaGreatDoorFsOb
import Derived.Test.YtkdjkmnalkalpaaGreatDoorFsRk
import Derived.Test.YtkdjkmnalkalpaaGreatDoorFsRo
namespace Go.Proofs.YtkdjkmnalkalpaaGreatDoor
open Go.RowKit Go.Maps Go.WideMaps
set_option maxRecDepth 100000

end Go.Proofs.YtkdjkmnalkalpaaGreatDoor
namespace Go.Proofs.YtkdjkmnalkalpaaGreatDoor
open Go.RowKit Go.Maps Go.WideMaps
set_option maxRecDepth 100000

def filR (f : Fil) : RN := (strOfNums f.data, (f.sure : Int))
structure Sim (A : FsA) (R : RSt) : Prop where
  room : R.room = A.room
  steps : R.steps = A.count
  left : R.left = if A.armed = true then A.left else -1
  plan : R.plan = A.plan
  planL : A.plan.length < 1000
  created : A.created = (R.files.length : Int)
  inj : ∀ b b' f f', A.file b = some f → A.file b' = some f' → f.num = f'.num → b = b'
  file : ∀ b f, A.file b = some f → 0 ≤ f.num ∧ R.files[f.num.toNat]? = some (filR f)
  row : ∀ x ∈ R.files, x.1.size ≤ 65536 ∧ 0 ≤ x.2 ∧ x.2 ≤ x.1.size
  chg : A.since.length = R.changes.length
  each : ∀ c ∈ R.changes, c.length ≤ 2
  dirs : ∀ i, Rep A.file R.files.length (preD A i) (preR R i)
  good : ∀ i, ∀ x ∈ preR R i, nameB x.1 = true
  dir : R.dir = preR R R.changes.length
theorem Sim.fl {A : FsA} {R : RSt} (h : Sim A R) : ∀ b f, A.file b = some f → 0 ≤ f.num := fun b f hb => (h.file b f hb).1
theorem Sim.now {A : FsA} {R : RSt} {n : Nat} (h : Sim A R) (hI : Inv A n) : Rep A.file R.files.length A.now R.dir := by
  rw [hI.now, h.dir, ← h.chg]; exact h.dirs _
theorem Sim.names {A : FsA} {R : RSt} {n : Nat} (h : Sim A R) (hI : Inv A n) : namesD A.now = R.dir.map nmL := (h.now hI).names h.fl hI.tidyNow hI.okNow
theorem uniq_key : ∀ (es : List (Lit × DataW Unit)), es.Pairwise (fun p q => p.1 ≠ q.1) → ∀ p q, p ∈ es → q ∈ es → p.1 = q.1 → p = q
  | [], _, _, _, h, _, _ => by cases h
  | a :: es, hp, p, q, h1, h2, h => by
    obtain ⟨g1, g2⟩ := List.pairwise_cons.1 hp
    rcases List.mem_cons.1 h1 with e1 | e1 <;> rcases List.mem_cons.1 h2 with e2 | e2
    · rw [e1, e2]
    · rw [e1] at h; exact absurd h (g1 q e2)
    · rw [e2] at h; exact absurd h.symm (g1 p e1)
    · exact uniq_key es g2 p q e1 e2 h
end Go.Proofs.YtkdjkmnalkalpaaGreatDoor
namespace Go.Proofs.YtkdjkmnalkalpaaGreatDoor
open Go.RowKit Go.Maps Go.WideMaps
set_option maxRecDepth 100000

section
variable {A : FsA} {R : RSt} {n : Nat}
theorem appendA_err {A : FsA} {s : ByteArray} {p : List Int} (h0 : ¬ (findA A s).2 = 0) : appendA A s p = (A, (findA A s).2) := by
  unfold appendA
  generalize findA A s = q at h0
  obtain ⟨q1, q2⟩ := q
  simp only at h0
  split
  · rename_i heq; cases heq; exact absurd rfl h0
  · rename_i heq; cases heq; rfl
end
end Go.Proofs.YtkdjkmnalkalpaaGreatDoor
namespace Go.Proofs.YtkdjkmnalkalpaaGreatDoor
open Go.RowKit Go.Maps Go.WideMaps
set_option maxRecDepth 100000

section
variable {A : FsA} {n : Nat}
theorem inv_create (h : Inv A n) (s : ByteArray) (b : Nat) : Inv (createA A s b).1 (n + 3) := by
  unfold createA
  split
  · rename_i hn
    split
    · exact h.mono (by omega)
    · split
      · exact h.mono (by omega)
      · split
        · have h1 := h.step
          have h2 := h1.setF (b := b) (f := ⟨(stepA A).1.created, [], 0⟩) (by simp) (Nat.zero_le _) ⟨h1.cr.1, h1.cr.2⟩
          have h3 := h2.change (c := .create s b) ⟨(nameB_size hn).2, ⟨(stepA A).1.created, [], 0⟩, by show (if b = b then _ else _) = _; rw [if_pos rfl]⟩
          exact h3.created
        · exact h.step.mono (by omega)
  · exact h.mono (by omega)
theorem inv_append (h : Inv A n) (s : ByteArray) (p : List Int) : Inv (appendA A s p).1 (n + 3) := by
  by_cases h0 : (findA A s).2 = 0
  · obtain ⟨b, f, e1, e2⟩ := findA_ok h0 h.named
    unfold appendA
    rw [e1]
    simp only [e2]
    unfold putA
    have h1 := h.step
    have hnum := h.num b f e2
    have hsh := h.short b f e2
    split
    · exact h.mono (by omega)
    · rename_i hbig
      split
      · split
        · exact h1.mono (by omega)
        · exact (h1.setF (b := b) (f := { f with data := f.data ++ p }) (by rw [List.length_append]; omega) (by show f.sure ≤ (f.data ++ p).length; rw [List.length_append]; omega) ⟨hnum.1, by show f.num ≤ ((n + 1 : Nat) : Int); omega⟩).mono (by omega)
      · refine (h1.setF (b := b) (f := { f with data := f.data ++ p.take _ }) ?_ ?_ ⟨hnum.1, by show f.num ≤ ((n + 1 : Nat) : Int); omega⟩).mono (by omega)
        · rw [List.length_append, List.length_take]; omega
        · show f.sure ≤ (f.data ++ p.take _).length; rw [List.length_append]; omega
  · rw [appendA_err h0]; exact h.mono (by omega)
theorem inv_sync (h : Inv A n) (s : ByteArray) : Inv (syncA A s).1 (n + 3) := by
  unfold syncA
  by_cases h0 : (findA A s).2 = 0
  · obtain ⟨b, f, e1, e2⟩ := findA_ok h0 h.named
    rw [if_pos h0]
    unfold doneA
    split
    · have hfb : (stepA A).1.file b = some f := by rw [(stepA_same A).2.2.2.1]; exact e2
      have hnum := h.num b f e2
      have hsh := h.short b f e2
      have e9 : ({ (stepA A).1 with file := fun k => if some k = (findA A s).1 then ((stepA A).1.file k).map (fun f => { f with sure := f.data.length }) else (stepA A).1.file k } : FsA) = setF (stepA A).1 b { f with sure := f.data.length } := by
        unfold setF
        simp only [e1]
        congr 1
        funext k
        by_cases hk : k = b
        · subst hk; simp [hfb]
        · rw [if_neg (fun e => hk (Option.some.inj e)), if_neg hk]
      show Inv ({ (stepA A).1 with file := fun k => if some k = (findA A s).1 then ((stepA A).1.file k).map (fun f => { f with sure := f.data.length }) else (stepA A).1.file k } : FsA) _
      rw [e9]
      exact (h.step.setF (b := b) (f := { f with sure := f.data.length }) hsh.1 (Nat.le_refl _) ⟨hnum.1, by show f.num ≤ ((n + 1 : Nat) : Int); omega⟩).mono (by omega)
    · exact h.step.mono (by omega)
  · rw [if_neg h0]; exact h.mono (by omega)
theorem inv_dir (h : Inv A n) : Inv (dirA A).1 (n + 3) := by
  unfold dirA doneA
  split
  · exact h.step.dir.mono (by omega)
  · exact h.step.mono (by omega)
theorem inv_remove (h : Inv A n) (s : ByteArray) : Inv (removeA A s).1 (n + 3) := by
  unfold removeA doneA
  split
  · split
    · exact (h.step.change (c := .remove s) trivial).mono (by omega)
    · exact h.step.mono (by omega)
  · exact h.mono (by omega)
theorem inv_rename (h : Inv A n) (a b : ByteArray) : Inv (renameA A a b).1 (n + 3) := by
  unfold renameA doneA
  split
  · rename_i hn
    split
    · exact h.mono (by omega)
    · rename_i hd
      split
      · refine (h.step.change (c := .rename a b) ⟨(nameB_size hn.2).2, ?_⟩).mono (by omega)
        rw [(stepA_same A).1]
        cases e : dget A.now a with
        | none => exact absurd e hd
        | some x => exact ⟨x, rfl⟩
      · exact h.step.mono (by omega)
  · exact h.mono (by omega)
end
section
variable {A : FsA} {L : DataW Unit} {tails : List Int}
end
end Go.Proofs.YtkdjkmnalkalpaaGreatDoor
namespace Go.Proofs.YtkdjkmnalkalpaaGreatDoor
open Go.RowKit Go.Maps Go.WideMaps
set_option maxRecDepth 100000

structure PF (w0 w : World) (g : Nat) (S : Nat → Prop) (A : FsA) : Prop where
  fs : Fs w g S A
  lo : ∀ k, S k → w0.heap.size ≤ k ∧ k < w.heap.size
  base : Below w0.heap.size w0 w
structure Adv (S S' : Nat → Prop) (w w' : World) : Prop where
  keep : Keep S w w'
  more : ∀ k, S' k → S k ∨ w.heap.size ≤ k
section
variable {w0 w w' w'' : World} {g : Nat} {S S' S'' T : Nat → Prop} {A A' : FsA} {n : Nat}
theorem Adv.refl (S : Nat → Prop) (w : World) : Adv S S w w := ⟨Keep.refl _ _, fun _ h => .inl h⟩
theorem Adv.of_below (h : Below w.heap.size w w') : Adv S S w w' := ⟨Keep.of_below h, fun _ h => .inl h⟩
theorem Adv.trans (h1 : Adv S S' w w') (h2 : Adv S' S'' w' w'') : Adv S S'' w w'' :=
  ⟨⟨h2.keep.os.trans h1.keep.os, h2.keep.tape.trans h1.keep.tape, h2.keep.output.trans h1.keep.output, Nat.le_trans h1.keep.size h2.keep.size, fun k hk hS =>
    (h2.keep.block k (Nat.lt_of_lt_of_le hk h1.keep.size) fun e => (h1.more k e).elim hS fun e => by omega).trans (h1.keep.block k hk hS)⟩,
    fun k hk => (h2.more k hk).elim (h1.more k) fun e => .inr (Nat.le_trans h1.keep.size e)⟩
theorem Adv.block (h : Adv S S' w w') {k : Nat} (hk : k < w.heap.size) (hS : ¬ S k) : w'.heap[k]? = w.heap[k]? ∧ ¬ S' k := ⟨h.keep.block k hk hS, fun e => (h.more k e).elim hS fun e => by omega⟩
theorem Adv.blk (h : Adv S S' w w') {k : Nat} {t : TypeId} {cs : List Value} (hb : Blk w k t cs) (hS : ¬ S k) : Blk w' k t cs ∧ ¬ S' k := ⟨(h.block hb.lt hS).1.trans hb, (h.block hb.lt hS).2⟩
theorem PF.next (h : PF w0 w g S A) (hF : Fs w' g (grow S w w') A') (hK : Keep S w w') : PF w0 w' g (grow S w w') A' ∧ Adv S (grow S w w') w w' :=
  ⟨⟨hF, fun k hk => hk.elim (fun e => ⟨(h.lo k e).1, Nat.lt_of_lt_of_le (h.lo k e).2 hK.size⟩) (fun e => ⟨Nat.le_trans h.base.size e.1, e.2⟩),
    ⟨hK.os.trans h.base.os, hK.tape.trans h.base.tape, hK.output.trans h.base.output, Nat.le_trans h.base.size hK.size, fun k hk => (hK.block k (Nat.lt_of_lt_of_le hk h.base.size) fun hS => by have := (h.lo k hS).1; omega).trans (h.base.block k hk)⟩⟩,
    ⟨hK, fun k hk => hk.imp id fun e => e.1⟩⟩
theorem PF.same (h : PF w0 w g S A) (hF : Fs w' g S A') (hK : Keep S w w') : PF w0 w' g (grow S w w') A' ∧ Adv S (grow S w w') w w' := h.next (hF.to grow_left fun _ _ _ => rfl) hK
theorem PF.below (h : PF w0 w g S A) (hb : Below w.heap.size w w') : PF w0 w' g S A :=
  ⟨h.fs.below hb, fun k hk => ⟨(h.lo k hk).1, Nat.lt_of_lt_of_le (h.lo k hk).2 hb.size⟩, h.base.trans (hb.mono h.base.size)⟩
def Done (w0 w : World) (g : Nat) (S : Nat → Prop) (A' : FsA) (r : Value) (e : Ending) (w' : World) : Prop := ∃ S', e = .returned r ∧ PF w0 w' g S' A' ∧ Adv S S' w w'
theorem create_pf (s : ByteArray) (h : PF w0 w g S A) (hI : Inv A n) (hn : n < 90000) (hs : s.size ≤ 9223372036854775807) :
    Calls Tryz.prog 34 #[.pointer (some ⟨g, 0, none⟩), .string s] w fun e w' => ∃ b, A.file b = none ∧ Done w0 w g S (createA A s b).1 (.int .i64 (createA A s b).2) e w' := by
  have h1 := hI.cr
  have h2 := hI.sizeNow
  have h3 := hI.since
  exact (create_any g S A s w h.fs (hI.Num (by omega)) hs (by omega) (by omega) (by omega)).mono fun e w' ⟨b, hb, he, hF, hK⟩ => ⟨b, h.fs.ge hb, _, he, h.next hF hK⟩
theorem append_pf (s : ByteArray) (v : Value) (p : List Int) (h : PF w0 w g S A) (hI : Inv A n) (hn : n < 90000) (hs : s.size ≤ 9223372036854775807) (hp : Bytes w v p) (hpl : p.length ≤ 500000) (hv : ∀ x, Live v x → ¬ S x) :
    Calls Tryz.prog 35 #[.pointer (some ⟨g, 0, none⟩), .string s, v] w fun e w' => Done w0 w g S (appendA A s p).1 (.int .i64 (appendA A s p).2) e w' := by
  have h2 := hI.sizeNow
  exact (append_any g S A s v p w h.fs (hI.Num (by omega)) hI.po hI.okNow hI.short (by omega) hI.room hs hp hpl hv).mono fun e w' ⟨he, hF, hK⟩ => ⟨_, he, h.next hF hK⟩
theorem sync_pf (s : ByteArray) (h : PF w0 w g S A) (hI : Inv A n) (hn : n < 90000) (hs : s.size ≤ 9223372036854775807) :
    Calls Tryz.prog 67 #[.pointer (some ⟨g, 0, none⟩), .string s] w fun e w' => Done w0 w g S (syncA A s).1 (.int .i64 (syncA A s).2) e w' :=
  (sync_any g S A s w h.fs (hI.Num (by omega)) hI.named hs).mono fun _e _w' ⟨he, hF, hK⟩ => ⟨_, he, h.same hF hK⟩
theorem dir_pf (h : PF w0 w g S A) (hI : Inv A n) (hn : n < 90000) :
    Calls Tryz.prog 69 #[.pointer (some ⟨g, 0, none⟩)] w fun e w' => Done w0 w g S (dirA A).1 (.int .i64 (dirA A).2) e w' :=
  (syncDir_any g S A w h.fs (hI.Num (by omega))).mono fun _e _w' ⟨he, hF, hK⟩ => ⟨_, he, h.next hF hK⟩
theorem rename_pf (a b : ByteArray) (h : PF w0 w g S A) (hI : Inv A n) (hn : n < 90000) (ha : a.size ≤ 9223372036854775807) (hb : b.size ≤ 9223372036854775807) :
    Calls Tryz.prog 71 #[.pointer (some ⟨g, 0, none⟩), .string a, .string b] w fun e w' => Done w0 w g S (renameA A a b).1 (.int .i64 (renameA A a b).2) e w' :=
  (rename_any g S A a b w h.fs (hI.Num (by omega)) (hI.few (by omega)) ha hb).mono fun _e _w' ⟨he, hF, hK⟩ => ⟨_, he, h.next hF hK⟩
theorem remove_pf (a : ByteArray) (h : PF w0 w g S A) (hI : Inv A n) (hn : n < 90000) (ha : a.size ≤ 9223372036854775807) :
    Calls Tryz.prog 73 #[.pointer (some ⟨g, 0, none⟩), .string a] w fun e w' => Done w0 w g S (removeA A a).1 (.int .i64 (removeA A a).2) e w' :=
  (remove_any g S A a w h.fs (hI.Num (by omega)) (hI.few (by omega)) ha).mono fun _e _w' ⟨he, hF, hK⟩ => ⟨_, he, h.next hF hK⟩
theorem new_pf (room : Int) (h1 : 1 ≤ room) (h2 : room ≤ 1048576) (hb : Below w0.heap.size w0 w) :
    Calls Tryz.prog 14 #[.int .i64 room] w fun e w' => ∃ g S, e = .returned (.tuple #[.pointer (some ⟨g, 0, none⟩), .int .i64 0]) ∧ PF w0 w' g S (newA room) ∧ Below w.heap.size w w' :=
  (new_any room h1 h2 w).mono fun _e w' ⟨g, he, _, hF, hB⟩ => ⟨g, newB w w', he, ⟨hF, fun _k hk => ⟨Nat.le_trans hb.size hk.1, hk.2⟩, hb.trans (hB.mono hb.size)⟩, hB⟩
end
end Go.Proofs.YtkdjkmnalkalpaaGreatDoor
