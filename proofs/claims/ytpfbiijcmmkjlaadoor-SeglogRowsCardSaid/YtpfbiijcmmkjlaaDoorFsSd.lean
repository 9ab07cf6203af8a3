/- Package simfs: every call, with the blocks that it may change. -/
import Derived.Test.YtpfbiijcmmkjlaaDoorFsSc
namespace Go.Proofs.YtpfbiijcmmkjlaaDoor
open Go.RowKit Go.Maps Go.WideMaps
set_option maxRecDepth 100000

/-- A file system in blocks of S, all made since w0. -/
structure PF (w0 w : World) (g : Nat) (S : Nat → Prop) (A : FsA) : Prop where
  fs : Fs w g S A
  lo : ∀ k, S k → w0.heap.size ≤ k ∧ k < w.heap.size
  base : Below w0.heap.size w0 w
/-- From w to w' but blocks of S and new ones are as they were; S' has no other. -/
structure Adv (S S' : Nat → Prop) (w w' : World) : Prop where
  keep : Keep S w w'
  more : ∀ k, S' k → S k ∨ w.heap.size ≤ k
section
variable {w0 w w' w'' : World} {g : Nat} {S S' S'' T : Nat → Prop} {A A' : FsA} {n : Nat}
theorem Adv.refl (S : Nat → Prop) (w : World) : Adv S S w w := ⟨Keep.refl _ _, fun _ h => .inl h⟩
theorem Adv.of_below (h : Below w.heap.size w w') : Adv S S w w' := ⟨Keep.of_below h, fun _ h => .inl h⟩
theorem Adv.trans (h1 : Adv S S' w w') (h2 : Adv S' S'' w' w'') : Adv S S'' w w'' :=
  ⟨⟨h2.keep.os.trans h1.keep.os, h2.keep.tape.trans h1.keep.tape, h2.keep.output.trans h1.keep.output, Nat.le_trans h1.keep.size h2.keep.size, fun k hk hS =>
    (h2.keep.block k (Nat.lt_of_lt_of_le hk h1.keep.size) fun e => (h1.more k e).elim hS fun e => by omega).trans (h1.keep.block k hk hS)⟩,
    fun k hk => (h2.more k hk).elim (h1.more k) fun e => .inr (Nat.le_trans h1.keep.size e)⟩
theorem Adv.block (h : Adv S S' w w') {k : Nat} (hk : k < w.heap.size) (hS : ¬ S k) : w'.heap[k]? = w.heap[k]? ∧ ¬ S' k := ⟨h.keep.block k hk hS, fun e => (h.more k e).elim hS fun e => by omega⟩
theorem Adv.blk (h : Adv S S' w w') {k : Nat} {t : TypeId} {cs : List Value} (hb : Blk w k t cs) (hS : ¬ S k) : Blk w' k t cs ∧ ¬ S' k := ⟨(h.block hb.lt hS).1.trans hb, (h.block hb.lt hS).2⟩
theorem PF.next (h : PF w0 w g S A) (hF : Fs w' g (grow S w w') A') (hK : Keep S w w') : PF w0 w' g (grow S w w') A' ∧ Adv S (grow S w w') w w' :=
  ⟨⟨hF, fun k hk => hk.elim (fun e => ⟨(h.lo k e).1, Nat.lt_of_lt_of_le (h.lo k e).2 hK.size⟩) (fun e => ⟨Nat.le_trans h.base.size e.1, e.2⟩),
    ⟨hK.os.trans h.base.os, hK.tape.trans h.base.tape, hK.output.trans h.base.output, Nat.le_trans h.base.size hK.size, fun k hk => (hK.block k (Nat.lt_of_lt_of_le hk h.base.size) fun hS => by have := (h.lo k hS).1; omega).trans (h.base.block k hk)⟩⟩,
    ⟨hK, fun k hk => hk.imp id fun e => e.1⟩⟩
theorem PF.same (h : PF w0 w g S A) (hF : Fs w' g S A') (hK : Keep S w w') : PF w0 w' g (grow S w w') A' ∧ Adv S (grow S w w') w w' := h.next (hF.to grow_left fun _ _ _ => rfl) hK
theorem PF.below (h : PF w0 w g S A) (hb : Below w.heap.size w w') : PF w0 w' g S A :=
  ⟨h.fs.below hb, fun k hk => ⟨(h.lo k hk).1, Nat.lt_of_lt_of_le (h.lo k hk).2 hb.size⟩, h.base.trans (hb.mono h.base.size)⟩
/-- What a call of the program answers, and what it makes of the file system. -/
def Done (w0 w : World) (g : Nat) (S : Nat → Prop) (A' : FsA) (r : Value) (e : Ending) (w' : World) : Prop := ∃ S', e = .returned r ∧ PF w0 w' g S' A' ∧ Adv S S' w w'
theorem create_pf (s : ByteArray) (h : PF w0 w g S A) (hI : Inv A n) (hn : n < 900) (hs : s.size ≤ 9223372036854775807) :
    Calls Tryd.prog 19 #[.pointer (some ⟨g, 0, none⟩), .string s] w fun e w' => ∃ b, A.file b = none ∧ Done w0 w g S (createA A s b).1 (.int .i64 (createA A s b).2) e w' := by
  have h1 := hI.cr
  have h2 := hI.sizeNow
  have h3 := hI.since
  exact (create_any g S A s w h.fs (hI.Num (by omega)) hs (by omega) (by omega) (by omega)).mono fun e w' ⟨b, hb, he, hF, hK⟩ => ⟨b, h.fs.ge hb, _, he, h.next hF hK⟩
theorem append_pf (s : ByteArray) (v : Value) (p : List Int) (h : PF w0 w g S A) (hI : Inv A n) (hn : n < 900) (hs : s.size ≤ 9223372036854775807) (hp : Bytes w v p) (hpl : p.length ≤ 500000) (hv : ∀ x, Live v x → ¬ S x) :
    Calls Tryd.prog 14 #[.pointer (some ⟨g, 0, none⟩), .string s, v] w fun e w' => Done w0 w g S (appendA A s p).1 (.int .i64 (appendA A s p).2) e w' := by
  have h2 := hI.sizeNow
  exact (append_any g S A s v p w h.fs (hI.Num (by omega)) hI.po hI.okNow hI.short (by omega) hI.room hs hp hpl hv).mono fun e w' ⟨he, hF, hK⟩ => ⟨_, he, h.next hF hK⟩
theorem sync_pf (s : ByteArray) (h : PF w0 w g S A) (hI : Inv A n) (hn : n < 900) (hs : s.size ≤ 9223372036854775807) :
    Calls Tryd.prog 22 #[.pointer (some ⟨g, 0, none⟩), .string s] w fun e w' => Done w0 w g S (syncA A s).1 (.int .i64 (syncA A s).2) e w' :=
  (sync_any g S A s w h.fs (hI.Num (by omega)) hI.named hs).mono fun _e _w' ⟨he, hF, hK⟩ => ⟨_, he, h.same hF hK⟩
theorem dir_pf (h : PF w0 w g S A) (hI : Inv A n) (hn : n < 900) :
    Calls Tryd.prog 20 #[.pointer (some ⟨g, 0, none⟩)] w fun e w' => Done w0 w g S (dirA A).1 (.int .i64 (dirA A).2) e w' :=
  (syncDir_any g S A w h.fs (hI.Num (by omega))).mono fun _e _w' ⟨he, hF, hK⟩ => ⟨_, he, h.next hF hK⟩
theorem new_pf (room : Int) (h1 : 1 ≤ room) (h2 : room ≤ 1048576) (hb : Below w0.heap.size w0 w) :
    Calls Tryd.prog 10 #[.int .i64 room] w fun e w' => ∃ g S, e = .returned (.tuple #[.pointer (some ⟨g, 0, none⟩), .int .i64 0]) ∧ PF w0 w' g S (newA room) ∧ Below w.heap.size w w' :=
  (new_any room h1 h2 w).mono fun _e w' ⟨g, he, _, hF, hB⟩ => ⟨g, newB w w', he, ⟨hF, fun _k hk => ⟨Nat.le_trans hb.size hk.1, hk.2⟩, hb.trans (hB.mono hb.size)⟩, hB⟩
end
end Go.Proofs.YtpfbiijcmmkjlaaDoor
