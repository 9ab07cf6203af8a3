/- Package simfs: every call on a file system that was made since, by what it makes of the state. Package simfs: what a crash leaves, by name. Plain; nothing is walked. What the simfs laws' liftings need of the program itself. Plain facts of its tables. An argument that is a slice of bytes, opened; numbers of a machine. -/
import Derived.Test.YtigbgajelkknbaaGreatDoorFsX
import Derived.Test.YtigbgajelkknbaaGreatDoorLift
import Derived.Test.YtigbgajelkknbaaGreatDoorRows
import Derived.ChangeMaps
import Derived.Test.YtigbgajelkknbaaGreatDoorFsL
import Derived.ChangeSlices
namespace Go.Proofs.YtigbgajelkknbaaGreatDoor
open Go.RowKit Go.Maps Go.WideMaps
set_option maxRecDepth 100000
section
variable {w0 w : World} {g : Nat} {A : FsA} {n : Nat}
theorem create_gen (s : ByteArray) (h : Own w0 w g A) (hI : Inv A n) (hn : n < 900) (hs : s.size ≤ 9223372036854775807) :
    Calls Tryz.prog 43 #[.pointer (some ⟨g, 0, none⟩), .string s] w fun e w' => ∃ b, w.heap.size ≤ b ∧ e = .returned (.int .i64 (createA A s b).2) ∧ Own w0 w' g (createA A s b).1 := by
  obtain ⟨S, k1, k2, k3⟩ := h
  have h1 := hI.cr
  have h2 := hI.sizeNow
  have h3 := hI.since
  exact (create_any g S A s w k1 (hI.Num (by omega)) hs (by omega) (by omega) (by omega)).mono fun e w' ⟨b, hb, he, hF, hK⟩ => ⟨b, hb, he, own_next k2 k3 hF hK⟩
theorem append_gen (s : ByteArray) (v : Value) (p : List Int) (h : Own w0 w g A) (hI : Inv A n) (hn : n < 900) (hs : s.size ≤ 9223372036854775807) (hp : Bytes w v p) (hpl : p.length ≤ 500000) (hv : ∀ x, v.ownBlock = some x → x < w0.heap.size) :
    Calls Tryz.prog 44 #[.pointer (some ⟨g, 0, none⟩), .string s, v] w fun e w' => e = .returned (.int .i64 (appendA A s p).2) ∧ Own w0 w' g (appendA A s p).1 := by
  obtain ⟨S, k1, k2, k3⟩ := h
  have h2 := hI.sizeNow
  exact (append_any g S A s v p w k1 (hI.Num (by omega)) hI.po hI.okNow hI.short (by omega) hI.room hs hp hpl (fun x hx hS => by have := hv x hx.1; have := (k2 x hS).1; omega)).mono fun e w' ⟨he, hF, hK⟩ => ⟨he, own_next k2 k3 hF hK⟩
theorem append_gen_new (s : ByteArray) (p : List Int) {k1 k2 : Nat} (h : Own w0 w g A) (hI : Inv A n) (hn : n < 900) (hs : s.size ≤ 9223372036854775807) (hpl : p.length ≤ 500000) :
    Calls Tryz.prog 44 #[.pointer (some ⟨g, 0, none⟩), .string s, .slice (some ⟨w.heap.size, 0, none⟩) p.length p.length] (w.alloc (.cells (p.map (Value.int .u8)).toArray 5 (k1, k2))) fun e w' => e = .returned (.int .i64 (appendA A s p).2) ∧ Own w0 w' g (appendA A s p).1 := by
  obtain ⟨S, m1, m2, m3⟩ := h
  have h2 := hI.sizeNow
  have hB : Below w.heap.size w (w.alloc (.cells (p.map (Value.int .u8)).toArray 5 (k1, k2))) := (Below.refl _ _).alloc (Nat.le_refl _) _
  have hbn : (w.alloc (.cells (p.map (Value.int .u8)).toArray 5 (k1, k2))).heap[w.heap.size]? = some (.cells (p.map (Value.int .u8)).toArray 5 (k1, k2)) := heap_alloc_new w _
  have hb : Bytes (w.alloc (.cells (p.map (Value.int .u8)).toArray 5 (k1, k2))) (.slice (some ⟨w.heap.size, 0, none⟩) p.length p.length) p := .inr (.inr ⟨w.heap.size, 0, p.length, rfl, Nat.le_refl _, (Array.getElem?_eq_some_iff.1 hbn).1, fun j v hv => by rw [Nat.zero_add, cell_of_row _ _ j _ _ _ hbn]; simpa using hv⟩)
  refine (append_any g S A s _ p _ (m1.below hB) (hI.Num (by omega)) hI.po hI.okNow hI.short (by omega) hI.room hs hb hpl (fun x hx hS => by have hx := hx.1; cases hx; have h9 : w.heap.size < w.heap.size := (m2 _ hS).2; omega)).mono fun e w' ⟨he, hF, hK⟩ => ⟨he, ?_⟩
  exact own_next (fun k hk => ⟨(m2 k hk).1, Nat.lt_of_lt_of_le (m2 k hk).2 hB.size⟩) (m3.trans (hB.mono m3.size)) hF hK
theorem sync_gen (s : ByteArray) (h : Own w0 w g A) (hI : Inv A n) (hn : n < 900) (hs : s.size ≤ 9223372036854775807) :
    Calls Tryz.prog 53 #[.pointer (some ⟨g, 0, none⟩), .string s] w fun e w' => e = .returned (.int .i64 (syncA A s).2) ∧ Own w0 w' g (syncA A s).1 := by
  obtain ⟨S, k1, k2, k3⟩ := h
  exact (sync_any g S A s w k1 (hI.Num (by omega)) hI.named hs).mono fun e w' ⟨he, hF, hK⟩ => ⟨he, own_same k2 k3 hF hK⟩
theorem dir_gen (h : Own w0 w g A) (hI : Inv A n) (hn : n < 900) :
    Calls Tryz.prog 55 #[.pointer (some ⟨g, 0, none⟩)] w fun e w' => e = .returned (.int .i64 (dirA A).2) ∧ Own w0 w' g (dirA A).1 := by
  obtain ⟨S, k1, k2, k3⟩ := h
  exact (syncDir_any g S A w k1 (hI.Num (by omega))).mono fun e w' ⟨he, hF, hK⟩ => ⟨he, own_next k2 k3 hF hK⟩
theorem rename_gen (a b : ByteArray) (h : Own w0 w g A) (hI : Inv A n) (hn : n < 900) (ha : a.size ≤ 9223372036854775807) (hb : b.size ≤ 9223372036854775807) :
    Calls Tryz.prog 57 #[.pointer (some ⟨g, 0, none⟩), .string a, .string b] w fun e w' => e = .returned (.int .i64 (renameA A a b).2) ∧ Own w0 w' g (renameA A a b).1 := by
  obtain ⟨S, k1, k2, k3⟩ := h
  exact (rename_any g S A a b w k1 (hI.Num (by omega)) (hI.few (by omega)) ha hb).mono fun e w' ⟨he, hF, hK⟩ => ⟨he, own_next k2 k3 hF hK⟩
theorem remove_gen (a : ByteArray) (h : Own w0 w g A) (hI : Inv A n) (hn : n < 900) (ha : a.size ≤ 9223372036854775807) :
    Calls Tryz.prog 48 #[.pointer (some ⟨g, 0, none⟩), .string a] w fun e w' => e = .returned (.int .i64 (removeA A a).2) ∧ Own w0 w' g (removeA A a).1 := by
  obtain ⟨S, k1, k2, k3⟩ := h
  exact (remove_any g S A a w k1 (hI.Num (by omega)) (hI.few (by omega)) ha).mono fun e w' ⟨he, hF, hK⟩ => ⟨he, own_next k2 k3 hF hK⟩
theorem arm_gen (k : Int) (h : Own w0 w g A) :
    Calls Tryz.prog 41 #[.pointer (some ⟨g, 0, none⟩), .int .i64 k] w fun e w' => e = .returned (.int .i64 (armA A k).2) ∧ Own w0 w' g (armA A k).1 := by
  obtain ⟨S, k1, k2, k3⟩ := h
  have hg := k1.gS
  exact (arm_any g S A k w k1).mono fun e w' ⟨he, hF, hB⟩ => ⟨he, own_same k2 k3 hF (Keep.of_but hB hg)⟩
theorem read_gen (s : ByteArray) (h : Own w0 w g A) (hI : Inv A n) (hs : s.size ≤ 9223372036854775807) :
    Calls Tryz.prog 47 #[.pointer (some ⟨g, 0, none⟩), .string s] w fun e w' => ∃ v, e = .returned (.tuple #[v, .int .i64 (readA A s).2]) ∧ Bytes w' v (readA A s).1 ∧ Below w.heap.size w w' ∧ Own w0 w' g A := by
  obtain ⟨S, k1, k2, k3⟩ := h
  exact (read_any g S A s w k1 hI.named hI.short hs).mono fun e w' ⟨v, he, hc⟩ => ⟨v, he, OwnD.bytes hc.1, hc.2, Own.below ⟨S, k1, k2, k3⟩ hc.2⟩
theorem crash_gen (dirs : Int) (v : Value) (tails : List Int) (h : Own w0 w g A) (hI : Inv A n) (hn : n < 900) (hv : Ints w v tails) (htl : tails.length < 1000) :
    Calls Tryz.prog 42 #[.pointer (some ⟨g, 0, none⟩), .int .i64 dirs, v] w fun e w' => ∃ g' bs, e = .returned (.pointer (some ⟨g', 0, none⟩)) ∧ bs.length = (namesD (leftD A dirs)).length ∧ bs.Nodup ∧ Own w0 w' g' (crashA A dirs tails bs) ∧ Own w0 w' g A ∧ Below w.heap.size w w' := by
  obtain ⟨S, k1, k2, k3⟩ := h
  exact (crash_any g S A dirs v tails w k1 (hI.crashy (by omega)) hv (by omega)).mono fun e w' ⟨g', bs, he, hbl, hnd, _, hF, hB⟩ =>
    ⟨g', bs, he, hbl, hnd, ⟨newB w w', hF, fun k hk => ⟨Nat.le_trans k3.size hk.1, hk.2⟩, k3.trans (hB.mono k3.size)⟩, Own.below ⟨S, k1, k2, k3⟩ hB, hB⟩
end

/-- One file "a", armed with N steps of which j are done. -/
structure Arm1 (A : FsA) (b N j : Nat) : Prop where
  inv : Inv A (4 + j)
  armed : A.armed = true
  left : A.left = (N : Int) - j
  plan : A.plan = []
  count : A.count = 1 + (j : Int)
  now : A.now = oneD nA b
  file : ∃ f, A.file b = some f ∧ f.data.length ≤ j
  room : A.room = 1000
theorem Arm1.step {A : FsA} {b N j : Nat} (h : Arm1 A b N j) (hj : j < N) : (stepA A).2 = (0, 0) ∧ Arm1 (stepA A).1 b N (j + 1) := by
  have hd : ¬ deadB A.armed A.left = true := by unfold deadB; rw [h.armed, h.left]; simp; omega
  have e : stepA A = ({ A with count := A.count + 1, left := A.left - 1, plan := A.plan.tail }, 0, 0) := by
    unfold stepA; rw [if_neg hd, if_pos h.armed, h.plan]; rfl
  have hI := h.inv.step
  rw [e] at hI ⊢
  obtain ⟨f, hf, hl⟩ := h.file
  exact ⟨rfl, hI, h.armed, by show A.left - 1 = _; rw [h.left]; omega, by show A.plan.tail = _; rw [h.plan]; rfl, by show A.count + 1 = _; rw [h.count]; omega, h.now, ⟨f, hf, by omega⟩, h.room⟩
theorem Arm1.dead {A : FsA} {b N : Nat} (h : Arm1 A b N N) : stepA A = (A, 0, 22) := by
  have hd : deadB A.armed A.left = true := by unfold deadB; rw [h.armed, h.left]; simp
  unfold stepA; rw [if_pos hd]
theorem Arm1.get {A : FsA} {b N j : Nat} (h : Arm1 A b N j) : dget A.now nA = some b := by rw [h.now]; exact one_get nA b
theorem Arm1.setF {A : FsA} {b N j : Nat} (h : Arm1 A b N j) {f' : Fil} (hl : f'.data.length ≤ j) (hj : j ≤ 1000) (hs : f'.sure ≤ f'.data.length) (hn : ∀ f, A.file b = some f → f'.num = f.num) : Arm1 (setF A b f') b N j := by
  obtain ⟨f, hf, _⟩ := h.file
  exact ⟨h.inv.setF (by omega) hs (by rw [hn f hf]; exact h.inv.num b f hf), h.armed, h.left, h.plan, h.count, h.now, ⟨f', by show (if b = b then _ else _) = _; rw [if_pos rfl], hl⟩, h.room⟩
theorem Arm1.used {A : FsA} {b N j : Nat} (h : Arm1 A b N j) (f : Fil) (hf : A.file b = some f) : usedA A = f.data.length := by
  unfold usedA; rw [h.now]; unfold oneD usedD tot wt; simp [hf]
/-- What one call makes of it. -/
def Armed (A' : FsA) (c : Int) (b N j : Nat) : Prop := (j < N → c = 0 ∧ Arm1 A' b N (j + 1)) ∧ (j = N → c = 22 ∧ Arm1 A' b N N)
theorem Arm1.doSync {A : FsA} {b N j : Nat} (h : Arm1 A b N j) (hj : j < 100) (hN : j ≤ N) : Armed (syncA A nA).1 (syncA A nA).2 b N j := by
  unfold syncA
  rw [findA_some nameA h.get, if_pos rfl]
  unfold doneA
  refine ⟨fun hlt => ?_, fun he => ?_⟩
  · obtain ⟨e1, h1⟩ := h.step hlt
    obtain ⟨f, hf, hl⟩ := h1.file
    have e2 : (stepA A).2.2 = 0 := by rw [e1]
    rw [if_pos e2]
    refine ⟨rfl, ?_⟩
    have := h1.setF (f' := { f with sure := f.data.length }) hl (by omega) (Nat.le_refl _) (fun f' hf' => by rw [hf] at hf'; cases hf'; rfl)
    have e3 : ({ (stepA A).1 with file := fun k => if some k = some b then ((stepA A).1.file k).map (fun f => { f with sure := f.data.length }) else (stepA A).1.file k } : FsA) = Go.Proofs.YtigbgajelkknbaaGreatDoor.setF (stepA A).1 b { f with sure := f.data.length } := by
      unfold Go.Proofs.YtigbgajelkknbaaGreatDoor.setF
      simp only
      congr 1
      funext k
      by_cases hk : k = b
      · subst hk; simp [hf]
      · rw [if_neg (fun e => hk (Option.some.inj e)), if_neg hk]
    show Arm1 ({ (stepA A).1 with file := fun k => if some k = some b then ((stepA A).1.file k).map (fun f => { f with sure := f.data.length }) else (stepA A).1.file k } : FsA) b N (j + 1)
    rw [e3]
    exact this
  · subst he
    rw [h.dead]
    exact ⟨rfl, h⟩
theorem Arm1.doDir {A : FsA} {b N j : Nat} (h : Arm1 A b N j) : Armed (dirA A).1 (dirA A).2 b N j := by
  unfold dirA doneA
  refine ⟨fun hlt => ?_, fun he => ?_⟩
  · obtain ⟨e1, h1⟩ := h.step hlt
    rw [if_pos (by rw [e1])]
    exact ⟨rfl, h1.inv.dir, h1.armed, h1.left, h1.plan, h1.count, h1.now, h1.file, h1.room⟩
  · subst he
    rw [h.dead]
    exact ⟨rfl, h⟩
theorem Arm1.doAppend {A : FsA} {b N j : Nat} (h : Arm1 A b N j) (hj : j < 100) : Armed (appendA A nA [7]).1 (appendA A nA [7]).2 b N j := by
  obtain ⟨f, hf, hl⟩ := h.file
  have hu := h.used f hf
  have hsf := (h.inv.short b f hf).2
  unfold appendA
  rw [findA_some nameA h.get]
  simp only [hf]
  unfold putA
  rw [if_neg (by simp; omega)]
  refine ⟨fun hlt => ?_, fun he => ?_⟩
  · obtain ⟨e1, h1⟩ := h.step hlt
    have hf1 : (stepA A).1.file b = some f := by rw [(stepA_same A).2.2.2.1]; exact hf
    rw [if_pos (by rw [e1]), if_neg (by rw [h.room, hu]; simp; omega)]
    exact ⟨rfl, h1.setF (f' := { f with data := f.data ++ [7] }) (by simp; omega) (by omega) (by simp; omega) (fun f' hf' => by rw [hf1] at hf'; cases hf'; rfl)⟩
  · subst he
    rw [h.dead]
    rw [if_neg (by simp)]
    have hp : partOf 0 ([7] : List Int).length (A.room - (usedA A : Int)) = 0 := by unfold partOf; simp; omega
    refine ⟨rfl, ?_⟩
    simp only [hp]
    exact h.setF (f' := { f with data := f.data ++ [] }) (by simpa using hl) (by omega) (by simpa using hsf) (fun f' hf' => by rw [hf] at hf'; cases hf'; rfl)
theorem Arm1.start {A : FsA} {b N _n : Nat} (h : One A nA b ⟨0, [], 0⟩ 1000 3) (hc : A.count = 1) (hN : N < 40) : armA A N = ({ A with armed := true, left := N }, 0) ∧ Arm1 { A with armed := true, left := N } b N 0 := by
  constructor
  · unfold armA; rw [if_neg (by omega), h.calm.a]; rfl
  · have hm := h.inv.mono (show 3 ≤ 4 + 0 by omega)
    exact ⟨⟨hm.c, ⟨by show (0 : Int) ≤ N; omega, by show (N : Int) ≤ _; omega⟩, hm.p, hm.po, hm.room, hm.cr, hm.since, hm.now, hm.size, hm.tidy, hm.ok, hm.short, hm.num⟩, rfl, by show (N : Int) = _; omega, h.calm.p, by show A.count = _; rw [hc]; rfl, h.now, ⟨_, h.file, Nat.le_refl _⟩, h.room⟩
/-- 'Create' of the first file, with its count. -/
theorem create1_cnt {w0 w : World} {g : Nat} {s : ByteArray} {room : Int} (h : Own w0 w g (newA room)) (h1 : 1 ≤ room) (h2 : room ≤ 1048576) (hs : nameB s = true) :
    Calls Tryz.prog 43 #[.pointer (some ⟨g, 0, none⟩), .string s] w fun e w' => ∃ b A', e = .returned (.int .i64 0) ∧ Own w0 w' g A' ∧ One A' s b ⟨0, [], 0⟩ room 3 ∧ A'.count = 1 := by
  have hI := Inv.new room h1 h2
  have hsz := (nameB_size hs).2
  refine (create_gen s h hI (by omega) (by omega)).mono ?_
  rintro e w' ⟨b, _, he, hF⟩
  rw [create_calm ⟨rfl, rfl⟩ hs rfl (by show 0 < 64; omega) b] at he hF
  exact ⟨b, _, he, hF, ⟨hI.createCalm hsz b, ⟨rfl, rfl⟩, hs, rfl, by show (if b = b then _ else _) = _; rw [if_pos rfl]; rfl, rfl⟩, rfl⟩
end Go.Proofs.YtigbgajelkknbaaGreatDoor
namespace Go.Proofs.YtigbgajelkknbaaGreatDoor
open Go.RowKit Go.Maps Go.WideMaps
set_option maxRecDepth 100000

theorem key_bytes (s : List UInt8) : keyL ⟨s.toArray⟩ = Lit.string s := by unfold keyL; simp
theorem bytes_back (s : ByteArray) : (⟨s.data.toList.toArray⟩ : ByteArray) = s := by apply ByteArray.ext; simp
theorem arr_inj {a b : List UInt8} (h : (⟨a.toArray⟩ : ByteArray) = ⟨b.toArray⟩) : a = b := by
  have h1 := congrArg (fun x : ByteArray => x.data.toList) h
  simpa using h1
/-- A name that is looked up stands among the names. -/
theorem mem_names {D : DataW Unit} {s : List UInt8} {b : Nat} (hD : Maps.IsMap D) (h : dget D ⟨s.toArray⟩ = some b) : s ∈ namesD D := by
  obtain ⟨es, rfl⟩ := hD
  unfold namesD
  rw [List.mem_mergeSort]
  unfold dget DataW.atKey at h
  cases hf : es.find? (fun p => p.1.sameKey (keyL ⟨s.toArray⟩)) with
  | none => simp [hf] at h
  | some p =>
    have hs := List.find?_some hf
    have hm := List.mem_of_find?_eq_some hf
    rw [key_bytes] at hs
    show s ∈ es.map fun p => strOf p.1
    refine List.mem_map.2 ⟨p, hm, ?_⟩
    cases hp : p.1 with
    | string t => rw [hp] at hs; simp [Lit.sameKey] at hs; simp [strOf, hs]
    | _ => rw [hp] at hs; simp [Lit.sameKey] at hs
/-- The names of a directory are apart. -/
theorem names_nodup {fl : Nat → Option Fil} {D : DataW Unit} (hT : Maps.Tidy D) (hO : OkD fl D) : (namesD D).Nodup := by
  obtain ⟨es, rfl, hpw⟩ := hT
  obtain ⟨es', he, hp⟩ := hO
  cases he
  unfold namesD
  refine (List.mergeSort_perm _ _).nodup_iff.2 ?_
  show (es.map fun p => strOf p.1).Nodup
  unfold List.Nodup
  rw [List.pairwise_map]
  refine List.Pairwise.imp_of_mem (fun {p q} hpm hqm hne => ?_) hpw
  obtain ⟨s, _, _, h1, _⟩ := hp p hpm
  obtain ⟨t, _, _, h2, _⟩ := hp q hqm
  rw [h1, h2] at hne ⊢
  intro e
  apply hne
  unfold keyL at e ⊢
  exact congrArg Lit.string e

section
variable {A : FsA} {L : DataW Unit} {tails : List Int}
theorem crashStep_now (X : FsA) (p : List UInt8 × Nat) : (crashStep A L tails X p).now = X.now.put (keyL ⟨p.1.toArray⟩) (.lit (.int .i64 p.2)) := by rw [key_bytes]; rfl
theorem fold_isMap : ∀ (l : List (List UInt8 × Nat)) (X : FsA), Maps.IsMap X.now → Maps.IsMap (l.foldl (crashStep A L tails) X).now
  | [], _, h => h
  | p :: l, X, h => fold_isMap l _ (by rw [crashStep_now]; exact h.put _ _)
theorem fold_get_other {s : List UInt8} : ∀ (l : List (List UInt8 × Nat)) (X : FsA), s ∉ l.map Prod.fst → dget (l.foldl (crashStep A L tails) X).now ⟨s.toArray⟩ = dget X.now ⟨s.toArray⟩
  | [], _, _ => rfl
  | p :: l, X, h => by
    rw [List.foldl_cons, fold_get_other l _ (fun e => h (List.mem_cons_of_mem _ e)), crashStep_now, dget_put_other]
    intro e
    exact h (by rw [arr_inj e]; exact List.mem_cons_self)
theorem fold_file_other {b : Nat} : ∀ (l : List (List UInt8 × Nat)) (X : FsA), b ∉ l.map Prod.snd → (l.foldl (crashStep A L tails) X).file b = X.file b
  | [], _, _ => rfl
  | p :: l, X, h => by
    rw [List.foldl_cons, fold_file_other l _ (fun e => h (List.mem_cons_of_mem _ e))]
    exact if_neg (fun e => h (by rw [e]; exact List.mem_cons_self))
theorem fold_get {s : List UInt8} {b : Nat} : ∀ (l : List (List UInt8 × Nat)) (X : FsA), Maps.IsMap X.now → (l.map Prod.fst).Nodup → (l.map Prod.snd).Nodup → (s, b) ∈ l →
    dget (l.foldl (crashStep A L tails) X).now ⟨s.toArray⟩ = some b ∧ ∃ num, (l.foldl (crashStep A L tails) X).file b = some (crashedF (fileOf A L s) (tails.getD (fileOf A L s).num.toNat 0) num)
  | [], _, _, _, _, h => by cases h
  | p :: l, X, hm, h1, h2, h => by
    rw [List.map_cons, List.nodup_cons] at h1 h2
    rw [List.foldl_cons]
    rcases List.mem_cons.1 h with rfl | h
    · refine ⟨?_, X.created, ?_⟩
      · rw [fold_get_other l _ h1.1, crashStep_now]; exact dget_put_same hm _ _
      · rw [fold_file_other l _ h2.1]; exact if_pos rfl
    · exact fold_get l _ (by rw [crashStep_now]; exact hm.put _ _) h1.2 h2.2 h
end
/-- A name that is left of a crash, and its file. -/
theorem crash_get {A : FsA} {n : Nat} {dirs : Int} {tails : List Int} {bs : List Nat} {s : ByteArray} {b0 : Nat} {f : Fil} (hI : Inv A n) (hl : bs.length = (namesD (leftD A dirs)).length) (hnd : bs.Nodup) (hg : dget (leftD A dirs) s = some b0) (hf : A.file b0 = some f) :
    ∃ b num, dget (crashA A dirs tails bs).now s = some b ∧ (crashA A dirs tails bs).file b = some (crashedF f (tails.getD f.num.toNat 0) num) := by
  have hT : Maps.Tidy (leftD A dirs) := hI.tidy _
  have hO : OkD A.file (leftD A dirs) := hI.ok _
  rw [← bytes_back s] at hg ⊢
  have hm := mem_names hT.isMap hg
  have hfo : fileOf A (leftD A dirs) s.data.toList = f := by unfold fileOf; rw [hg]; simp [hf]
  obtain ⟨i, hi, hie⟩ := List.getElem_of_mem hm
  have hib : i < bs.length := by omega
  have hz : (s.data.toList, bs[i]) ∈ (namesD (leftD A dirs)).zip bs := by
    rw [List.mem_iff_getElem]
    exact ⟨i, by simp; omega, by rw [List.getElem_zip, hie]⟩
  have h1 : (((namesD (leftD A dirs)).zip bs).map Prod.fst).Nodup := by
    rw [List.map_fst_zip (by omega)]; exact names_nodup hT hO
  have h2 : (((namesD (leftD A dirs)).zip bs).map Prod.snd).Nodup := by
    rw [List.map_snd_zip (by omega)]; exact hnd
  obtain ⟨g1, num, g2⟩ := fold_get (A := A) (L := leftD A dirs) (tails := tails) _ (newA A.room) Maps.isMap_empty h1 h2 hz
  rw [hfo] at g2
  exact ⟨bs[i], num, g1, g2⟩
/-- A name that is not left. -/
theorem crash_gone {A : FsA} {n : Nat} {dirs : Int} {tails : List Int} {bs : List Nat} {s : ByteArray} (hI : Inv A n) (hl : bs.length = (namesD (leftD A dirs)).length) (hg : dget (leftD A dirs) s = none) :
    dget (crashA A dirs tails bs).now s = none := by
  have hO : OkD A.file (leftD A dirs) := hI.ok _
  rw [← bytes_back s] at hg ⊢
  show dget (crashX A (leftD A dirs) tails _).now _ = none
  unfold crashX
  rw [fold_get_other]
  · rfl
  · rw [List.map_fst_zip (by omega)]
    intro hm
    obtain ⟨b, f, h1, _⟩ := name_file hO hm
    rw [hg] at h1; cases h1

/-- A file system that a crash is making. -/
structure Mid (X : FsA) (k : Nat) (room : Int) : Prop where
  count : X.count = 0
  armed : X.armed = false
  left : X.left = 0
  plan : X.plan = []
  since : X.since = []
  room : X.room = room
  created : X.created = k
  size : Maps.size X.now ≤ k
  tidy : Maps.Tidy X.now
  ok : OkD X.file X.now
  short : Short X
  num : ∀ b f, X.file b = some f → 0 ≤ f.num ∧ f.num ≤ k
theorem crashedF_short {f : Fil} {t num : Int} (h1 : f.data.length ≤ 65536) (h2 : f.sure ≤ f.data.length) : (crashedF f t num).data.length ≤ 65536 ∧ (crashedF f t num).sure ≤ (crashedF f t num).data.length := by
  have h3 := leftN_le f t h2
  unfold crashedF
  simp only [List.length_take]; omega
theorem fileOf_short {A : FsA} (h : Short A) (L : DataW Unit) (s : List UInt8) : (fileOf A L s).data.length ≤ 65536 ∧ (fileOf A L s).sure ≤ (fileOf A L s).data.length := by
  unfold fileOf
  cases h1 : (dget L ⟨s.toArray⟩).bind A.file with
  | none => simp
  | some f =>
    obtain ⟨b, _, hb⟩ := Option.bind_eq_some_iff.1 h1
    exact h b f hb
theorem Mid.step {A X : FsA} {L : DataW Unit} {tails : List Int} {k : Nat} {room : Int} {p : List UInt8 × Nat} (h : Mid X k room) (hA : Short A) (hs : p.1.length ≤ 20) : Mid (crashStep A L tails X p) (k + 1) room := by
  have hsh := fileOf_short hA L p.1
  have hcf := crashedF_short (t := tails.getD (fileOf A L p.1).num.toNat 0) (num := X.created) hsh.1 hsh.2
  refine ⟨h.count, h.armed, h.left, h.plan, h.since, h.room, by show X.created + 1 = _; rw [h.created]; rfl, ?_, ?_, ?_, ?_, ?_⟩
  · rw [crashStep_now, size_put h.tidy]
    have := h.size
    split <;> omega
  · rw [crashStep_now]; exact h.tidy.put (keyLit _) _
  · rw [crashStep_now]
    refine OkD.put (f := crashedF (fileOf A L p.1) (tails.getD (fileOf A L p.1).num.toNat 0) X.created) (h.ok.mono fun b f hb => ?_) (by show p.1.toArray.size ≤ 20; simpa using hs) (if_pos rfl)
    show ∃ f', (if b = p.2 then _ else X.file b) = some f'
    by_cases e : b = p.2
    · exact ⟨_, if_pos e⟩
    · exact ⟨f, by rw [if_neg e]; exact hb⟩
  · intro b f hb
    have hb' : (if b = p.2 then some (crashedF (fileOf A L p.1) (tails.getD (fileOf A L p.1).num.toNat 0) X.created) else X.file b) = some f := hb
    by_cases e : b = p.2
    · rw [if_pos e] at hb'; cases hb'; exact hcf
    · rw [if_neg e] at hb'; exact h.short b f hb'
  · intro b f hb
    have hb' : (if b = p.2 then some (crashedF (fileOf A L p.1) (tails.getD (fileOf A L p.1).num.toNat 0) X.created) else X.file b) = some f := hb
    by_cases e : b = p.2
    · rw [if_pos e] at hb'; cases hb'
      show 0 ≤ X.created ∧ X.created ≤ ((k + 1 : Nat) : Int)
      rw [h.created]; omega
    · rw [if_neg e] at hb'; have := h.num b f hb'; omega
theorem Mid.fold {A : FsA} {L : DataW Unit} {tails : List Int} {room : Int} (hA : Short A) : ∀ (l : List (List UInt8 × Nat)) (X : FsA) (k : Nat), Mid X k room → (∀ p ∈ l, p.1.length ≤ 20) → Mid (l.foldl (crashStep A L tails) X) (k + l.length) room
  | [], X, k, h, _ => h
  | p :: l, X, k, h, hl => by
    have := Mid.fold (L := L) (tails := tails) hA l _ (k + 1) (h.step (L := L) (tails := tails) hA (hl p List.mem_cons_self)) fun q hq => hl q (List.mem_cons_of_mem _ hq)
    rw [List.length_cons, show k + (l.length + 1) = k + 1 + l.length by omega]; exact this
theorem Mid.new (room : Int) : Mid (newA room) 0 room :=
  ⟨rfl, rfl, rfl, rfl, rfl, rfl, rfl, Nat.le_refl _, Maps.tidy_empty, ⟨[], rfl, fun p h => (by cases h)⟩, (fun b f h => by cases h), (fun b f h => by cases h)⟩
/-- What a crash leaves keeps the rules. -/
theorem Inv.crash {A : FsA} {n : Nat} {dirs : Int} {tails : List Int} {bs : List Nat} (hI : Inv A n) (hl : bs.length = (namesD (leftD A dirs)).length) : Inv (crashA A dirs tails bs) n := by
  have hO : OkD A.file (leftD A dirs) := hI.ok _
  have hsz : (namesD (leftD A dirs)).length ≤ n := by
    have h1 : Maps.size (leftD A dirs) ≤ n := hI.size _
    obtain ⟨es, he, _⟩ := hO
    rw [he] at h1 ⊢
    unfold namesD
    rw [List.length_mergeSort]
    rw [size_eq] at h1
    simpa [strKeys] using h1
  have hM := Mid.fold (L := leftD A dirs) (tails := tails) (room := A.room) hI.short ((namesD (leftD A dirs)).zip bs) (newA A.room) 0 (Mid.new A.room) fun p hp => by
    obtain ⟨_, _, _, _, h⟩ := name_file hO (List.of_mem_zip hp).1
    exact h
  rw [Nat.zero_add] at hM
  have hzl : ((namesD (leftD A dirs)).zip bs).length ≤ n := by rw [List.length_zip]; omega
  have hp : ∀ i, preD (crashA A dirs tails bs) i = (crashA A dirs tails bs).now := fun i => by
    unfold preD
    rw [show (crashA A dirs tails bs).since = [] from hM.since, List.take_nil]; rfl
  refine ⟨⟨by rw [show (crashA A dirs tails bs).count = 0 from hM.count]; omega, by rw [show (crashA A dirs tails bs).count = 0 from hM.count]; omega⟩, ⟨by rw [show (crashA A dirs tails bs).left = 0 from hM.left]; omega, by rw [show (crashA A dirs tails bs).left = 0 from hM.left]; omega⟩,
    by rw [show (crashA A dirs tails bs).plan = [] from hM.plan]; show 0 < _; omega, (fun k hk => by rw [show (crashA A dirs tails bs).plan = [] from hM.plan] at hk; cases hk), by rw [show (crashA A dirs tails bs).room = A.room from hM.room]; exact hI.room,
    ?_, by rw [show (crashA A dirs tails bs).since = [] from hM.since]; exact Nat.zero_le _, (hp _).symm, (fun i => by rw [hp]; exact Nat.le_trans hM.size hzl), (fun i => by rw [hp]; exact hM.tidy), (fun i => by rw [hp]; exact hM.ok), hM.short, fun b f hf => ?_⟩
  · have hc : (crashA A dirs tails bs).created = (((namesD (leftD A dirs)).zip bs).length : Nat) := hM.created
    rw [hc]; omega
  · have := hM.num b f hf; omega
end Go.Proofs.YtigbgajelkknbaaGreatDoor
namespace Go.Proofs.YtigbgajelkknbaaGreatDoor
open Go.RowKit Go.WideShapes Go.ChangeShapes Go.ChangeAt
set_option maxRecDepth 100000

theorem Tryz.own : ownKnob Tryz.prog.godebug = none := by kernel_rfl
theorem Tryz.laidOut : laidOutB Tryz.prog = true := by kernel_rfl
theorem byteCells : Tryz.prog.cellsOf 5 = 1 := by kernel_rfl
end Go.Proofs.YtigbgajelkknbaaGreatDoor
namespace Go.Proofs.YtigbgajelkknbaaGreatDoor
open Go.RowKit Go.WideShapes Go.ChangeShapes Go.ChangeAt
set_option maxRecDepth 100000
section
variable {H : Type} {enc : TypeId × Value → H} {P : Program}
theorem shape_lt {w : World} {b : Nat} {x : TypeId × Nat} (h : w.shape? b = some x) : b < w.heap.size := by
  by_cases k : b < w.heap.size
  · exact k
  · unfold World.shape? at h; rw [Array.getElem?_eq_none (by omega)] at h; cases h
/-- An argument that is a slice of bytes. -/
theorem open_bytes {r : Reach} {b0 : Nat} {t e : Nat} {w : World} {base : Nat} {spare : Nat → Bool} {held : Bool} {v : Value} {d : DataW H} {ps : List MemPlace}
    (ht : P.underlying t = some (.slice e)) (he : P.underlying e = some (.int .u8)) (hcE : P.cellsOf e = 1)
    (hval : Value.okWide P w r b0 t v) (hd : DataW.Trod enc P w base spare held t v d ps) : ∃ zs : List Int, Bytes w v zs ∧ zs.length < 9223372036854775808 ∧ ∀ z ∈ zs, (Lit.int .u8 z).wf = true := by
  obtain ⟨a0, len, cap, rfl⟩ := okWide_slice ht hval
  obtain ⟨fuel, hf⟩ := hd
  rcases open_ints ht he hcE hf with ⟨hcs, _⟩ | ⟨a, len', cap', zs, hcs, _, hl, hm, hz, hx, hcell, hwz⟩
  · simp [Value.cells] at hcs
    obtain ⟨rfl, rfl, rfl⟩ := hcs
    exact ⟨[], Or.inl ⟨rfl, rfl⟩, by simp, fun z hz => by cases hz⟩
  · simp [Value.cells] at hcs
    obtain ⟨rfl, rfl, rfl⟩ := hcs
    have hok : w.has P r b0 a e cap := by
      unfold Value.okWide Cell.okWide Cell.ok at hval
      rw [ht] at hval
      exact hval.2.2
    obtain ⟨_, hsp, row, cells, hsh, _⟩ := hok
    have hlz : len ≤ zs.length := by rw [hz]; split <;> omega
    have hlen : (zs.take len).length = len := by simp; omega
    obtain ⟨ab, ao, asp⟩ := a
    cases hsp
    refine ⟨zs.take len, Or.inr (Or.inr ⟨ab, ao, cap, by rw [hlen], by rw [hlen]; exact hl, shape_lt hsh, fun j u hu => ?_⟩), by rw [hlen]; unfold maxLen at hm; omega, fun z hz => hwz z (List.mem_of_mem_take hz)⟩
    rw [List.getElem?_map] at hu
    cases hj : (zs.take len)[j]? with
    | none => rw [hj] at hu; cases hu
    | some x =>
      rw [hj] at hu
      cases hu
      have hjl : j < len := by have := (List.getElem?_eq_some_iff.1 hj).1; omega
      have hc := hcell j (by omega)
      rw [List.getElem?_take_of_lt hjl] at hj
      rw [List.getD_eq_getElem?_getD, hj] at hc
      simpa [Addr.add] using (show w.cell? ⟨ab, ao + j, none⟩ = _ by
        have e : Addr.add ⟨ab, ao, none⟩ j = ⟨ab, ao + j, none⟩ := by unfold Addr.add; by_cases h : j = 0 <;> simp [h]
        rw [← e]; exact hc)
end

end Go.Proofs.YtigbgajelkknbaaGreatDoor
