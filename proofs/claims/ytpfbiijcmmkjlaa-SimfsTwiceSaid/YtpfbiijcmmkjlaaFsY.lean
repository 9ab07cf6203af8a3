/- Package simfs: every call on a file system that was made since, by what it makes of the state. -/
import Derived.Test.YtpfbiijcmmkjlaaFsX
namespace Go.Proofs.Ytpfbiijcmmkjlaa
open Go.RowKit Go.Maps Go.WideMaps
section
variable {w0 w : World} {g : Nat} {A : FsA} {n : Nat}
theorem create_gen (s : ByteArray) (h : Own w0 w g A) (hI : Inv A n) (hn : n < 900) (hs : s.size ≤ 9223372036854775807) :
    Calls Try.prog 15 #[.pointer (some ⟨g, 0, none⟩), .string s] w fun e w' => ∃ b, w.heap.size ≤ b ∧ e = .returned (.int .i64 (createA A s b).2) ∧ Own w0 w' g (createA A s b).1 := by
  obtain ⟨S, k1, k2, k3⟩ := h
  have h1 := hI.cr
  have h2 := hI.sizeNow
  have h3 := hI.since
  exact (create_any g S A s w k1 (hI.Num (by omega)) hs (by omega) (by omega) (by omega)).mono fun e w' ⟨b, hb, he, hF, hK⟩ => ⟨b, hb, he, own_next k2 k3 hF hK⟩
theorem append_gen (s : ByteArray) (v : Value) (p : List Int) (h : Own w0 w g A) (hI : Inv A n) (hn : n < 900) (hs : s.size ≤ 9223372036854775807) (hp : Bytes w v p) (hpl : p.length ≤ 500000) (hv : ∀ x, v.ownBlock = some x → x < w0.heap.size) :
    Calls Try.prog 16 #[.pointer (some ⟨g, 0, none⟩), .string s, v] w fun e w' => e = .returned (.int .i64 (appendA A s p).2) ∧ Own w0 w' g (appendA A s p).1 := by
  obtain ⟨S, k1, k2, k3⟩ := h
  have h2 := hI.sizeNow
  exact (append_any g S A s v p w k1 (hI.Num (by omega)) hI.po hI.okNow hI.short (by omega) hI.room hs hp hpl (fun x hx hS => by have := hv x hx.1; have := (k2 x hS).1; omega)).mono fun e w' ⟨he, hF, hK⟩ => ⟨he, own_next k2 k3 hF hK⟩
theorem append_gen_new (s : ByteArray) (p : List Int) {k1 k2 : Nat} (h : Own w0 w g A) (hI : Inv A n) (hn : n < 900) (hs : s.size ≤ 9223372036854775807) (hpl : p.length ≤ 500000) :
    Calls Try.prog 16 #[.pointer (some ⟨g, 0, none⟩), .string s, .slice (some ⟨w.heap.size, 0, none⟩) p.length p.length] (w.alloc (.cells (p.map (Value.int .u8)).toArray 5 (k1, k2))) fun e w' => e = .returned (.int .i64 (appendA A s p).2) ∧ Own w0 w' g (appendA A s p).1 := by
  obtain ⟨S, m1, m2, m3⟩ := h
  have h2 := hI.sizeNow
  have hB : Below w.heap.size w (w.alloc (.cells (p.map (Value.int .u8)).toArray 5 (k1, k2))) := (Below.refl _ _).alloc (Nat.le_refl _) _
  have hbn : (w.alloc (.cells (p.map (Value.int .u8)).toArray 5 (k1, k2))).heap[w.heap.size]? = some (.cells (p.map (Value.int .u8)).toArray 5 (k1, k2)) := heap_alloc_new w _
  have hb : Bytes (w.alloc (.cells (p.map (Value.int .u8)).toArray 5 (k1, k2))) (.slice (some ⟨w.heap.size, 0, none⟩) p.length p.length) p := .inr (.inr ⟨w.heap.size, 0, p.length, rfl, Nat.le_refl _, (Array.getElem?_eq_some_iff.1 hbn).1, fun j v hv => by rw [Nat.zero_add, cell_of_row _ _ j _ _ _ hbn]; simpa using hv⟩)
  refine (append_any g S A s _ p _ (m1.below hB) (hI.Num (by omega)) hI.po hI.okNow hI.short (by omega) hI.room hs hb hpl (fun x hx hS => by have hx := hx.1; cases hx; have h9 : w.heap.size < w.heap.size := (m2 _ hS).2; omega)).mono fun e w' ⟨he, hF, hK⟩ => ⟨he, ?_⟩
  exact own_next (fun k hk => ⟨(m2 k hk).1, Nat.lt_of_lt_of_le (m2 k hk).2 hB.size⟩) (m3.trans (hB.mono m3.size)) hF hK
theorem sync_gen (s : ByteArray) (h : Own w0 w g A) (hI : Inv A n) (hn : n < 900) (hs : s.size ≤ 9223372036854775807) :
    Calls Try.prog 17 #[.pointer (some ⟨g, 0, none⟩), .string s] w fun e w' => e = .returned (.int .i64 (syncA A s).2) ∧ Own w0 w' g (syncA A s).1 := by
  obtain ⟨S, k1, k2, k3⟩ := h
  exact (sync_any g S A s w k1 (hI.Num (by omega)) hI.named hs).mono fun e w' ⟨he, hF, hK⟩ => ⟨he, own_same k2 k3 hF hK⟩
theorem dir_gen (h : Own w0 w g A) (hI : Inv A n) (hn : n < 900) :
    Calls Try.prog 21 #[.pointer (some ⟨g, 0, none⟩)] w fun e w' => e = .returned (.int .i64 (dirA A).2) ∧ Own w0 w' g (dirA A).1 := by
  obtain ⟨S, k1, k2, k3⟩ := h
  exact (syncDir_any g S A w k1 (hI.Num (by omega))).mono fun e w' ⟨he, hF, hK⟩ => ⟨he, own_next k2 k3 hF hK⟩
theorem rename_gen (a b : ByteArray) (h : Own w0 w g A) (hI : Inv A n) (hn : n < 900) (ha : a.size ≤ 9223372036854775807) (hb : b.size ≤ 9223372036854775807) :
    Calls Try.prog 23 #[.pointer (some ⟨g, 0, none⟩), .string a, .string b] w fun e w' => e = .returned (.int .i64 (renameA A a b).2) ∧ Own w0 w' g (renameA A a b).1 := by
  obtain ⟨S, k1, k2, k3⟩ := h
  exact (rename_any g S A a b w k1 (hI.Num (by omega)) (hI.few (by omega)) ha hb).mono fun e w' ⟨he, hF, hK⟩ => ⟨he, own_next k2 k3 hF hK⟩
theorem remove_gen (a : ByteArray) (h : Own w0 w g A) (hI : Inv A n) (hn : n < 900) (ha : a.size ≤ 9223372036854775807) :
    Calls Try.prog 25 #[.pointer (some ⟨g, 0, none⟩), .string a] w fun e w' => e = .returned (.int .i64 (removeA A a).2) ∧ Own w0 w' g (removeA A a).1 := by
  obtain ⟨S, k1, k2, k3⟩ := h
  exact (remove_any g S A a w k1 (hI.Num (by omega)) (hI.few (by omega)) ha).mono fun e w' ⟨he, hF, hK⟩ => ⟨he, own_next k2 k3 hF hK⟩
theorem arm_gen (k : Int) (h : Own w0 w g A) :
    Calls Try.prog 27 #[.pointer (some ⟨g, 0, none⟩), .int .i64 k] w fun e w' => e = .returned (.int .i64 (armA A k).2) ∧ Own w0 w' g (armA A k).1 := by
  obtain ⟨S, k1, k2, k3⟩ := h
  have hg := k1.gS
  exact (arm_any g S A k w k1).mono fun e w' ⟨he, hF, hB⟩ => ⟨he, own_same k2 k3 hF (Keep.of_but hB hg)⟩
theorem read_gen (s : ByteArray) (h : Own w0 w g A) (hI : Inv A n) (hs : s.size ≤ 9223372036854775807) :
    Calls Try.prog 14 #[.pointer (some ⟨g, 0, none⟩), .string s] w fun e w' => ∃ v, e = .returned (.tuple #[v, .int .i64 (readA A s).2]) ∧ Bytes w' v (readA A s).1 ∧ Below w.heap.size w w' ∧ Own w0 w' g A := by
  obtain ⟨S, k1, k2, k3⟩ := h
  exact (read_any g S A s w k1 hI.named hI.short hs).mono fun e w' ⟨v, he, hc⟩ => ⟨v, he, OwnD.bytes hc.1, hc.2, Own.below ⟨S, k1, k2, k3⟩ hc.2⟩
theorem crash_gen (dirs : Int) (v : Value) (tails : List Int) (h : Own w0 w g A) (hI : Inv A n) (hn : n < 900) (hv : Ints w v tails) (htl : tails.length < 1000) :
    Calls Try.prog 11 #[.pointer (some ⟨g, 0, none⟩), .int .i64 dirs, v] w fun e w' => ∃ g' bs, e = .returned (.pointer (some ⟨g', 0, none⟩)) ∧ bs.length = (namesD (leftD A dirs)).length ∧ bs.Nodup ∧ Own w0 w' g' (crashA A dirs tails bs) ∧ Own w0 w' g A ∧ Below w.heap.size w w' := by
  obtain ⟨S, k1, k2, k3⟩ := h
  exact (crash_any g S A dirs v tails w k1 (hI.crashy (by omega)) hv (by omega)).mono fun e w' ⟨g', bs, he, hbl, hnd, _, hF, hB⟩ =>
    ⟨g', bs, he, hbl, hnd, ⟨newB w w', hF, fun k hk => ⟨Nat.le_trans k3.size hk.1, hk.2⟩, k3.trans (hB.mono k3.size)⟩, Own.below ⟨S, k1, k2, k3⟩ hB, hB⟩
end

/-- One file "a", armed with N steps of which j are done. -/
structure Arm1 (A : FsA) (b N j : Nat) : Prop where
  inv : Inv A (4 + j)
  armed : A.armed = true
  left : A.left = (N : Int) - j
  plan : A.plan = []
  count : A.count = 1 + (j : Int)
  now : A.now = oneD nA b
  file : ∃ f, A.file b = some f ∧ f.data.length ≤ j
  room : A.room = 1000
theorem Arm1.step {A : FsA} {b N j : Nat} (h : Arm1 A b N j) (hj : j < N) : (stepA A).2 = (0, 0) ∧ Arm1 (stepA A).1 b N (j + 1) := by
  have hd : ¬ deadB A.armed A.left = true := by unfold deadB; rw [h.armed, h.left]; simp; omega
  have e : stepA A = ({ A with count := A.count + 1, left := A.left - 1, plan := A.plan.tail }, 0, 0) := by
    unfold stepA; rw [if_neg hd, if_pos h.armed, h.plan]; rfl
  have hI := h.inv.step
  rw [e] at hI ⊢
  obtain ⟨f, hf, hl⟩ := h.file
  exact ⟨rfl, hI, h.armed, by show A.left - 1 = _; rw [h.left]; omega, by show A.plan.tail = _; rw [h.plan]; rfl, by show A.count + 1 = _; rw [h.count]; omega, h.now, ⟨f, hf, by omega⟩, h.room⟩
theorem Arm1.dead {A : FsA} {b N : Nat} (h : Arm1 A b N N) : stepA A = (A, 0, 22) := by
  have hd : deadB A.armed A.left = true := by unfold deadB; rw [h.armed, h.left]; simp
  unfold stepA; rw [if_pos hd]
theorem Arm1.get {A : FsA} {b N j : Nat} (h : Arm1 A b N j) : dget A.now nA = some b := by rw [h.now]; exact one_get nA b
theorem Arm1.setF {A : FsA} {b N j : Nat} (h : Arm1 A b N j) {f' : Fil} (hl : f'.data.length ≤ j) (hj : j ≤ 1000) (hs : f'.sure ≤ f'.data.length) (hn : ∀ f, A.file b = some f → f'.num = f.num) : Arm1 (setF A b f') b N j := by
  obtain ⟨f, hf, _⟩ := h.file
  exact ⟨h.inv.setF (by omega) hs (by rw [hn f hf]; exact h.inv.num b f hf), h.armed, h.left, h.plan, h.count, h.now, ⟨f', by show (if b = b then _ else _) = _; rw [if_pos rfl], hl⟩, h.room⟩
theorem Arm1.used {A : FsA} {b N j : Nat} (h : Arm1 A b N j) (f : Fil) (hf : A.file b = some f) : usedA A = f.data.length := by
  unfold usedA; rw [h.now]; unfold oneD usedD tot wt; simp [hf]
/-- What one call makes of it. -/
def Armed (A' : FsA) (c : Int) (b N j : Nat) : Prop := (j < N → c = 0 ∧ Arm1 A' b N (j + 1)) ∧ (j = N → c = 22 ∧ Arm1 A' b N N)
theorem Arm1.doSync {A : FsA} {b N j : Nat} (h : Arm1 A b N j) (hj : j < 100) (hN : j ≤ N) : Armed (syncA A nA).1 (syncA A nA).2 b N j := by
  unfold syncA
  rw [findA_some nameA h.get, if_pos rfl]
  unfold doneA
  refine ⟨fun hlt => ?_, fun he => ?_⟩
  · obtain ⟨e1, h1⟩ := h.step hlt
    obtain ⟨f, hf, hl⟩ := h1.file
    have e2 : (stepA A).2.2 = 0 := by rw [e1]
    rw [if_pos e2]
    refine ⟨rfl, ?_⟩
    have := h1.setF (f' := { f with sure := f.data.length }) hl (by omega) (Nat.le_refl _) (fun f' hf' => by rw [hf] at hf'; cases hf'; rfl)
    have e3 : ({ (stepA A).1 with file := fun k => if some k = some b then ((stepA A).1.file k).map (fun f => { f with sure := f.data.length }) else (stepA A).1.file k } : FsA) = Go.Proofs.Ytpfbiijcmmkjlaa.setF (stepA A).1 b { f with sure := f.data.length } := by
      unfold Go.Proofs.Ytpfbiijcmmkjlaa.setF
      simp only
      congr 1
      funext k
      by_cases hk : k = b
      · subst hk; simp [hf]
      · rw [if_neg (fun e => hk (Option.some.inj e)), if_neg hk]
    show Arm1 ({ (stepA A).1 with file := fun k => if some k = some b then ((stepA A).1.file k).map (fun f => { f with sure := f.data.length }) else (stepA A).1.file k } : FsA) b N (j + 1)
    rw [e3]
    exact this
  · subst he
    rw [h.dead]
    exact ⟨rfl, h⟩
theorem Arm1.doDir {A : FsA} {b N j : Nat} (h : Arm1 A b N j) : Armed (dirA A).1 (dirA A).2 b N j := by
  unfold dirA doneA
  refine ⟨fun hlt => ?_, fun he => ?_⟩
  · obtain ⟨e1, h1⟩ := h.step hlt
    rw [if_pos (by rw [e1])]
    exact ⟨rfl, h1.inv.dir, h1.armed, h1.left, h1.plan, h1.count, h1.now, h1.file, h1.room⟩
  · subst he
    rw [h.dead]
    exact ⟨rfl, h⟩
theorem Arm1.doAppend {A : FsA} {b N j : Nat} (h : Arm1 A b N j) (hj : j < 100) : Armed (appendA A nA [7]).1 (appendA A nA [7]).2 b N j := by
  obtain ⟨f, hf, hl⟩ := h.file
  have hu := h.used f hf
  have hsf := (h.inv.short b f hf).2
  unfold appendA
  rw [findA_some nameA h.get]
  simp only [hf]
  unfold putA
  rw [if_neg (by simp; omega)]
  refine ⟨fun hlt => ?_, fun he => ?_⟩
  · obtain ⟨e1, h1⟩ := h.step hlt
    have hf1 : (stepA A).1.file b = some f := by rw [(stepA_same A).2.2.2.1]; exact hf
    rw [if_pos (by rw [e1]), if_neg (by rw [h.room, hu]; simp; omega)]
    exact ⟨rfl, h1.setF (f' := { f with data := f.data ++ [7] }) (by simp; omega) (by omega) (by simp; omega) (fun f' hf' => by rw [hf1] at hf'; cases hf'; rfl)⟩
  · subst he
    rw [h.dead]
    rw [if_neg (by simp)]
    have hp : partOf 0 ([7] : List Int).length (A.room - (usedA A : Int)) = 0 := by unfold partOf; simp; omega
    refine ⟨rfl, ?_⟩
    simp only [hp]
    exact h.setF (f' := { f with data := f.data ++ [] }) (by simpa using hl) (by omega) (by simpa using hsf) (fun f' hf' => by rw [hf] at hf'; cases hf'; rfl)
theorem Arm1.start {A : FsA} {b N _n : Nat} (h : One A nA b ⟨0, [], 0⟩ 1000 3) (hc : A.count = 1) (hN : N < 40) : armA A N = ({ A with armed := true, left := N }, 0) ∧ Arm1 { A with armed := true, left := N } b N 0 := by
  constructor
  · unfold armA; rw [if_neg (by omega), h.calm.a]; rfl
  · have hm := h.inv.mono (show 3 ≤ 4 + 0 by omega)
    exact ⟨⟨hm.c, ⟨by show (0 : Int) ≤ N; omega, by show (N : Int) ≤ _; omega⟩, hm.p, hm.po, hm.room, hm.cr, hm.since, hm.now, hm.size, hm.tidy, hm.ok, hm.short, hm.num⟩, rfl, by show (N : Int) = _; omega, h.calm.p, by show A.count = _; rw [hc]; rfl, h.now, ⟨_, h.file, Nat.le_refl _⟩, h.room⟩
/-- 'Create' of the first file, with its count. -/
theorem create1_cnt {w0 w : World} {g : Nat} {s : ByteArray} {room : Int} (h : Own w0 w g (newA room)) (h1 : 1 ≤ room) (h2 : room ≤ 1048576) (hs : nameB s = true) :
    Calls Try.prog 15 #[.pointer (some ⟨g, 0, none⟩), .string s] w fun e w' => ∃ b A', e = .returned (.int .i64 0) ∧ Own w0 w' g A' ∧ One A' s b ⟨0, [], 0⟩ room 3 ∧ A'.count = 1 := by
  have hI := Inv.new room h1 h2
  have hsz := (nameB_size hs).2
  refine (create_gen s h hI (by omega) (by omega)).mono ?_
  rintro e w' ⟨b, _, he, hF⟩
  rw [create_calm ⟨rfl, rfl⟩ hs rfl (by show 0 < 64; omega) b] at he hF
  exact ⟨b, _, he, hF, ⟨hI.createCalm hsz b, ⟨rfl, rfl⟩, hs, rfl, by show (if b = b then _ else _) = _; rw [if_pos rfl]; rfl, rfl⟩, rfl⟩
end Go.Proofs.Ytpfbiijcmmkjlaa
