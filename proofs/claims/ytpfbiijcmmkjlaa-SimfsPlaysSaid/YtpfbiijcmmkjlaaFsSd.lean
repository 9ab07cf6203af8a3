/- Package simfs: every call, with the blocks that it may change. -/
import Derived.Test.YtpfbiijcmmkjlaaFsSc
namespace Go.Proofs.Ytpfbiijcmmkjlaa
open Go.RowKit Go.Maps Go.WideMaps

/-- A file system in blocks of S, all made since w0. -/
structure PF (w0 w : World) (g : Nat) (S : Nat → Prop) (A : FsA) : Prop where
  fs : Fs w g S A
  lo : ∀ k, S k → w0.heap.size ≤ k ∧ k < w.heap.size
  base : Below w0.heap.size w0 w
/-- From w to w' but blocks of S and new ones are as they were; S' has no other. -/
structure Adv (S S' : Nat → Prop) (w w' : World) : Prop where
  keep : Keep S w w'
  more : ∀ k, S' k → S k ∨ w.heap.size ≤ k
section
variable {w0 w w' w'' : World} {g : Nat} {S S' S'' T : Nat → Prop} {A A' : FsA} {n : Nat}
theorem Adv.refl (S : Nat → Prop) (w : World) : Adv S S w w := ⟨Keep.refl _ _, fun _ h => .inl h⟩
theorem Adv.of_below (h : Below w.heap.size w w') : Adv S S w w' := ⟨Keep.of_below h, fun _ h => .inl h⟩
theorem Adv.trans (h1 : Adv S S' w w') (h2 : Adv S' S'' w' w'') : Adv S S'' w w'' :=
  ⟨⟨h2.keep.os.trans h1.keep.os, h2.keep.tape.trans h1.keep.tape, h2.keep.output.trans h1.keep.output, Nat.le_trans h1.keep.size h2.keep.size, fun k hk hS =>
    (h2.keep.block k (Nat.lt_of_lt_of_le hk h1.keep.size) fun e => (h1.more k e).elim hS fun e => by omega).trans (h1.keep.block k hk hS)⟩,
    fun k hk => (h2.more k hk).elim (h1.more k) fun e => .inr (Nat.le_trans h1.keep.size e)⟩
theorem Adv.block (h : Adv S S' w w') {k : Nat} (hk : k < w.heap.size) (hS : ¬ S k) : w'.heap[k]? = w.heap[k]? ∧ ¬ S' k := ⟨h.keep.block k hk hS, fun e => (h.more k e).elim hS fun e => by omega⟩
theorem Adv.blk (h : Adv S S' w w') {k : Nat} {t : TypeId} {cs : List Value} (hb : Blk w k t cs) (hS : ¬ S k) : Blk w' k t cs ∧ ¬ S' k := ⟨(h.block hb.lt hS).1.trans hb, (h.block hb.lt hS).2⟩
theorem Adv.rfs {v : Value} {R : RSt} (h : Adv S S' w w') (hr : RFs (fun k => ¬ S k) w v R) : RFs (fun k => ¬ S' k) w' v R :=
  (hr.lt.to fun _ hk => (h.block hk.2 hk.1).1).mono fun _ hk => (h.block hk.2 hk.1).2
theorem PF.next (h : PF w0 w g S A) (hF : Fs w' g (grow S w w') A') (hK : Keep S w w') : PF w0 w' g (grow S w w') A' ∧ Adv S (grow S w w') w w' :=
  ⟨⟨hF, fun k hk => hk.elim (fun e => ⟨(h.lo k e).1, Nat.lt_of_lt_of_le (h.lo k e).2 hK.size⟩) (fun e => ⟨Nat.le_trans h.base.size e.1, e.2⟩),
    ⟨hK.os.trans h.base.os, hK.tape.trans h.base.tape, hK.output.trans h.base.output, Nat.le_trans h.base.size hK.size, fun k hk => (hK.block k (Nat.lt_of_lt_of_le hk h.base.size) fun hS => by have := (h.lo k hS).1; omega).trans (h.base.block k hk)⟩⟩,
    ⟨hK, fun k hk => hk.imp id fun e => e.1⟩⟩
theorem PF.same (h : PF w0 w g S A) (hF : Fs w' g S A') (hK : Keep S w w') : PF w0 w' g (grow S w w') A' ∧ Adv S (grow S w w') w w' := h.next (hF.to grow_left fun _ _ _ => rfl) hK
theorem PF.below (h : PF w0 w g S A) (hb : Below w.heap.size w w') : PF w0 w' g S A :=
  ⟨h.fs.below hb, fun k hk => ⟨(h.lo k hk).1, Nat.lt_of_lt_of_le (h.lo k hk).2 hb.size⟩, h.base.trans (hb.mono h.base.size)⟩
/-- The reference's own call: new blocks alone. -/
theorem PF.rfs {v : Value} {R : RSt} (h : PF w0 w g S A) (hr : RFs (fun k => ¬ S k ∨ w.heap.size ≤ k) w' v R) : RFs (fun k => ¬ S k) w' v R :=
  hr.mono fun k hk hS => hk.elim (fun e => e hS) fun e => by have := (h.lo k hS).2; omega
/-- What a call of the program answers, and what it makes of the file system. -/
def Done (w0 w : World) (g : Nat) (S : Nat → Prop) (A' : FsA) (r : Value) (e : Ending) (w' : World) : Prop := ∃ S', e = .returned r ∧ PF w0 w' g S' A' ∧ Adv S S' w w'
theorem create_pf (s : ByteArray) (h : PF w0 w g S A) (hI : Inv A n) (hn : n < 900) (hs : s.size ≤ 9223372036854775807) :
    Calls Try.prog 15 #[.pointer (some ⟨g, 0, none⟩), .string s] w fun e w' => ∃ b, A.file b = none ∧ Done w0 w g S (createA A s b).1 (.int .i64 (createA A s b).2) e w' := by
  have h1 := hI.cr
  have h2 := hI.sizeNow
  have h3 := hI.since
  exact (create_any g S A s w h.fs (hI.Num (by omega)) hs (by omega) (by omega) (by omega)).mono fun e w' ⟨b, hb, he, hF, hK⟩ => ⟨b, h.fs.ge hb, _, he, h.next hF hK⟩
theorem append_pf (s : ByteArray) (v : Value) (p : List Int) (h : PF w0 w g S A) (hI : Inv A n) (hn : n < 900) (hs : s.size ≤ 9223372036854775807) (hp : Bytes w v p) (hpl : p.length ≤ 500000) (hv : ∀ x, Live v x → ¬ S x) :
    Calls Try.prog 16 #[.pointer (some ⟨g, 0, none⟩), .string s, v] w fun e w' => Done w0 w g S (appendA A s p).1 (.int .i64 (appendA A s p).2) e w' := by
  have h2 := hI.sizeNow
  exact (append_any g S A s v p w h.fs (hI.Num (by omega)) hI.po hI.okNow hI.short (by omega) hI.room hs hp hpl hv).mono fun e w' ⟨he, hF, hK⟩ => ⟨_, he, h.next hF hK⟩
theorem sync_pf (s : ByteArray) (h : PF w0 w g S A) (hI : Inv A n) (hn : n < 900) (hs : s.size ≤ 9223372036854775807) :
    Calls Try.prog 17 #[.pointer (some ⟨g, 0, none⟩), .string s] w fun e w' => Done w0 w g S (syncA A s).1 (.int .i64 (syncA A s).2) e w' :=
  (sync_any g S A s w h.fs (hI.Num (by omega)) hI.named hs).mono fun _e _w' ⟨he, hF, hK⟩ => ⟨_, he, h.same hF hK⟩
theorem dir_pf (h : PF w0 w g S A) (hI : Inv A n) (hn : n < 900) :
    Calls Try.prog 21 #[.pointer (some ⟨g, 0, none⟩)] w fun e w' => Done w0 w g S (dirA A).1 (.int .i64 (dirA A).2) e w' :=
  (syncDir_any g S A w h.fs (hI.Num (by omega))).mono fun _e _w' ⟨he, hF, hK⟩ => ⟨_, he, h.next hF hK⟩
theorem rename_pf (a b : ByteArray) (h : PF w0 w g S A) (hI : Inv A n) (hn : n < 900) (ha : a.size ≤ 9223372036854775807) (hb : b.size ≤ 9223372036854775807) :
    Calls Try.prog 23 #[.pointer (some ⟨g, 0, none⟩), .string a, .string b] w fun e w' => Done w0 w g S (renameA A a b).1 (.int .i64 (renameA A a b).2) e w' :=
  (rename_any g S A a b w h.fs (hI.Num (by omega)) (hI.few (by omega)) ha hb).mono fun _e _w' ⟨he, hF, hK⟩ => ⟨_, he, h.next hF hK⟩
theorem remove_pf (a : ByteArray) (h : PF w0 w g S A) (hI : Inv A n) (hn : n < 900) (ha : a.size ≤ 9223372036854775807) :
    Calls Try.prog 25 #[.pointer (some ⟨g, 0, none⟩), .string a] w fun e w' => Done w0 w g S (removeA A a).1 (.int .i64 (removeA A a).2) e w' :=
  (remove_any g S A a w h.fs (hI.Num (by omega)) (hI.few (by omega)) ha).mono fun _e _w' ⟨he, hF, hK⟩ => ⟨_, he, h.next hF hK⟩
theorem arm_pf (k : Int) (h : PF w0 w g S A) :
    Calls Try.prog 27 #[.pointer (some ⟨g, 0, none⟩), .int .i64 k] w fun e w' => Done w0 w g S (armA A k).1 (.int .i64 (armA A k).2) e w' :=
  (arm_any g S A k w h.fs).mono fun _e _w' ⟨he, hF, hB⟩ => ⟨_, he, h.same hF (Keep.of_but hB (by obtain ⟨_, _, _, _, _, _, hM⟩ := h.fs; exact hM.gS))⟩
theorem plan_pf (v : Value) (l : List Int) (h : PF w0 w g S A) (hv : Ints w v l) (hl : l.length ≤ 1000) :
    Calls Try.prog 29 #[.pointer (some ⟨g, 3, none⟩), v] w fun e w' => Done w0 w g S { A with plan := l } (.tuple #[]) e w' :=
  (plan_any g S A v l w h.fs hv hl).mono fun _e _w' ⟨he, hF, hK⟩ => ⟨_, he, h.next hF hK⟩
theorem crash_pf (dirs : Int) (v : Value) (tails : List Int) (h : PF w0 w g S A) (hI : Inv A n) (hn : n < 900) (hv : Ints w v tails) (htl : tails.length < 1000) :
    Calls Try.prog 11 #[.pointer (some ⟨g, 0, none⟩), .int .i64 dirs, v] w fun e w' => ∃ g' S' bs, e = .returned (.pointer (some ⟨g', 0, none⟩)) ∧ bs.length = (namesD (leftD A dirs)).length ∧ bs.Nodup ∧ PF w0 w' g' S' (crashA A dirs tails bs) ∧ (∀ k, S' k → w.heap.size ≤ k) ∧ Below w.heap.size w w' :=
  (crash_any g S A dirs v tails w h.fs (hI.crashy (by omega)) hv (by omega)).mono fun _e w' ⟨g', bs, he, hbl, hnd, _, hF, hB⟩ =>
    ⟨g', newB w w', bs, he, hbl, hnd, ⟨hF, fun _k hk => ⟨Nat.le_trans h.base.size hk.1, hk.2⟩, h.base.trans (hB.mono h.base.size)⟩, fun _k hk => hk.1, hB⟩
theorem new_pf (room : Int) (h1 : 1 ≤ room) (h2 : room ≤ 1048576) (hb : Below w0.heap.size w0 w) :
    Calls Try.prog 6 #[.int .i64 room] w fun e w' => ∃ g S, e = .returned (.tuple #[.pointer (some ⟨g, 0, none⟩), .int .i64 0]) ∧ PF w0 w' g S (newA room) ∧ Below w.heap.size w w' :=
  (new_any room h1 h2 w).mono fun _e w' ⟨g, he, _, hF, hB⟩ => ⟨g, newB w w', he, ⟨hF, fun _k hk => ⟨Nat.le_trans hb.size hk.1, hk.2⟩, hb.trans (hB.mono hb.size)⟩, hB⟩
end
end Go.Proofs.Ytpfbiijcmmkjlaa
