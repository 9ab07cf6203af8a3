/- Package simfs: what holds of every file system; how its parts are looked up. Plain; nothing is walked. Package simfs: calls that go well, and what they make. Package simfs: the laws' fixed fact. Package simfs: a name by definition; one file's further life; names that are none. -/
import Derived.Test.YtkdjkmnalkalpaaGreatDoorFsT
import Derived.Laws.BytesArg
import Derived.Lib.SlBytesConst
namespace Go.Proofs.YtkdjkmnalkalpaaGreatDoor
open Go.RowKit Go.Maps Go.WideMaps
set_option maxRecDepth 100000

structure Inv (A : FsA) (n : Nat) : Prop where
  c : 0 ≤ A.count ∧ A.count ≤ n
  l : 0 ≤ A.left ∧ A.left ≤ 9223372036854775807
  p : A.plan.length < 9223372036854775807
  po : PlanOk A
  room : 1 ≤ A.room ∧ A.room ≤ 1048576
  cr : 0 ≤ A.created ∧ A.created ≤ n
  since : A.since.length ≤ n
  now : A.now = preD A A.since.length
  size : ∀ i, Maps.size (preD A i) ≤ n
  tidy : ∀ i, Maps.Tidy (preD A i)
  ok : ∀ i, OkD A.file (preD A i)
  short : Short A
  num : ∀ b f, A.file b = some f → 0 ≤ f.num ∧ f.num ≤ n
theorem Inv.Num {A : FsA} {n : Nat} (h : Inv A n) (hn : n < 100000) : Num A := ⟨⟨h.c.1, by have := h.c.2; omega⟩, h.l, h.p⟩
theorem Inv.few {A : FsA} {n : Nat} (h : Inv A n) (hn : n < 100000) : Few A := ⟨by rw [h.now]; have := h.size A.since.length; omega, by have := h.since; omega⟩
theorem Inv.okNow {A : FsA} {n : Nat} (h : Inv A n) : OkD A.file A.now := by rw [h.now]; exact h.ok _
theorem Inv.sizeNow {A : FsA} {n : Nat} (h : Inv A n) : Maps.size A.now ≤ n := by rw [h.now]; exact h.size _
theorem Inv.tidyNow {A : FsA} {n : Nat} (h : Inv A n) : Maps.Tidy A.now := by rw [h.now]; exact h.tidy _
theorem Inv.named {A : FsA} {n : Nat} (h : Inv A n) : Named A := h.okNow.named
-- what is looked up
theorem dget_put_same {D : DataW Unit} (h : Maps.IsMap D) (s : ByteArray) (b : Nat) : dget (D.put (keyL s) (.lit (.int .i64 (b : Nat)))) s = some b := by
  unfold dget; rw [atKey_put_same h (keyLit s)]; simp
theorem dget_put_other {D : DataW Unit} {s t : ByteArray} (h : t ≠ s) (d : DataW Unit) : dget (D.put (keyL s) d) t = dget D t := by
  unfold dget; rw [atKey_put_other (fun e => h (keyL_inj e))]
theorem dget_del_same {D : DataW Unit} (s : ByteArray) : dget (D.del (keyL s)) s = none := by
  unfold dget; rw [atKey_del_same]
theorem dget_del_other {D : DataW Unit} {s t : ByteArray} (h : t ≠ s) : dget (D.del (keyL s)) t = dget D t := by
  unfold dget; rw [atKey_del_other (fun e => h (keyL_inj e))]
theorem OkD.mono {fl fl' : Nat → Option Fil} {D : DataW Unit} (h : OkD fl D) (hm : ∀ b f, fl b = some f → ∃ f', fl' b = some f') : OkD fl' D := by
  obtain ⟨es, he, hp⟩ := h
  refine ⟨es, he, fun p hpm => ?_⟩
  obtain ⟨s, b, f, h1, h2, h3, h4⟩ := hp p hpm
  obtain ⟨f', hf'⟩ := hm b f h4
  exact ⟨s, b, f', h1, h2, h3, hf'⟩
theorem OkD.put {fl : Nat → Option Fil} {D : DataW Unit} (h : OkD fl D) {s : ByteArray} {b : Nat} {f : Fil} (hs : s.size ≤ 20) (hb : fl b = some f) : OkD fl (D.put (keyL s) (.lit (.int .i64 (b : Nat)))) := by
  obtain ⟨es, rfl, hp⟩ := h
  refine ⟨_, rfl, fun p hpm => ?_⟩
  rcases ChangeMaps.mem_insert_iff.1 hpm with rfl | hpm
  · exact ⟨s, b, f, rfl, hs, rfl, hb⟩
  · exact hp p (List.mem_filter.1 hpm).1
theorem OkD.del {fl : Nat → Option Fil} {D : DataW Unit} (h : OkD fl D) (k : Lit) : OkD fl (D.del k) := by
  obtain ⟨es, rfl, hp⟩ := h
  exact ⟨_, rfl, fun p hpm => hp p (List.mem_filter.1 hpm).1⟩
theorem Tidy.ap {D : DataW Unit} (h : Maps.Tidy D) (c : Chg) : Maps.Tidy (c.ap D) := by
  cases c with
  | create n b => exact h.put (keyLit n) _
  | rename a b => exact (h.del _).put (keyLit b) _
  | remove a => exact h.del _
def Can (A : FsA) : Chg → Prop
  | .create n b => n.size ≤ 20 ∧ ∃ f, A.file b = some f
  | .rename a b => b.size ≤ 20 ∧ ∃ x, dget A.now a = some x
  | .remove _ => True
theorem OkD.ap {A : FsA} (h : OkD A.file A.now) {c : Chg} (hc : Can A c) : OkD A.file (c.ap A.now) := by
  cases c with
  | create n b => obtain ⟨h1, f, h2⟩ := hc; exact h.put h1 h2
  | rename a b =>
    obtain ⟨h1, x, h2⟩ := hc
    obtain ⟨f, hf⟩ := h.named a x h2
    show OkD A.file ((A.now.del _).put _ (datOf (dget A.now a)))
    rw [h2]
    exact (h.del _).put h1 hf
  | remove a => exact h.del _
theorem preD_change (A : FsA) (c : Chg) (i : Nat) : preD (changeA A c) i = if i ≤ A.since.length then preD A i else c.ap (preD A A.since.length) := by
  unfold preD changeA
  simp only
  by_cases h : i ≤ A.since.length
  · rw [if_pos h, List.take_append_of_le_length h]
  · rw [if_neg h, List.take_of_length_le (by simp; omega), List.foldl_append, List.take_of_length_le (Nat.le_refl _)]; rfl
theorem Inv.mono {A : FsA} {n m : Nat} (h : Inv A n) (hm : n ≤ m) : Inv A m :=
  ⟨⟨h.c.1, by have := h.c.2; omega⟩, h.l, h.p, h.po, h.room, ⟨h.cr.1, by have := h.cr.2; omega⟩, by have := h.since; omega, h.now, fun i => Nat.le_trans (h.size i) hm, h.tidy, h.ok, h.short, fun b f e => ⟨(h.num b f e).1, by have := (h.num b f e).2; omega⟩⟩
theorem Inv.step {A : FsA} {n : Nat} (h : Inv A n) : Inv (stepA A).1 (n + 1) := by
  by_cases hd : deadB A.armed A.left = true
  · have e : (stepA A).1 = A := by unfold stepA; rw [if_pos hd]
    rw [e]; exact h.mono (by omega)
  · have e : (stepA A).1 = { A with count := A.count + 1, left := if A.armed = true then A.left - 1 else A.left, plan := A.plan.tail } := by unfold stepA; rw [if_neg hd]
    rw [e]
    refine ⟨⟨by show 0 ≤ A.count + 1; have := h.c; omega, by show A.count + 1 ≤ ((n + 1 : Nat) : Int); have := h.c; omega⟩, ?_, ?_, fun k hk => h.po k (List.mem_of_mem_tail hk), h.room, ⟨h.cr.1, by show A.created ≤ ((n + 1 : Nat) : Int); have := h.cr; omega⟩, by show A.since.length ≤ n + 1; have := h.since; omega, h.now, fun i => Nat.le_trans (h.size i) (by omega), h.tidy, h.ok, h.short, fun b f e => ⟨(h.num b f e).1, by have := (h.num b f e).2; omega⟩⟩
    · show 0 ≤ (if A.armed = true then A.left - 1 else A.left) ∧ (if A.armed = true then A.left - 1 else A.left) ≤ 9223372036854775807
      have := h.l
      by_cases ha : A.armed = true
      · rw [if_pos ha]
        have h0 : A.left ≠ 0 := fun e0 => hd (by unfold deadB; rw [ha, e0]; rfl)
        omega
      · rw [if_neg ha]; exact h.l
    · show A.plan.tail.length < _
      have := h.p; rw [List.length_tail]; omega
theorem Inv.change {A : FsA} {n : Nat} (h : Inv A n) {c : Chg} (hc : Can A c) : Inv (changeA A c) (n + 1) := by
  have hnow := h.now
  refine ⟨⟨h.c.1, by show A.count ≤ ((n + 1 : Nat) : Int); have := h.c; omega⟩, h.l, h.p, h.po, h.room, ⟨h.cr.1, by show A.created ≤ ((n + 1 : Nat) : Int); have := h.cr; omega⟩, by show (A.since ++ [c]).length ≤ n + 1; have := h.since; simp; omega, ?_, ?_, ?_, ?_, h.short, fun b f e => ⟨(h.num b f e).1, by have := (h.num b f e).2; omega⟩⟩
  · rw [preD_change, if_neg (by show ¬ (A.since ++ [c]).length ≤ _; simp), ← hnow]; rfl
  · intro i
    rw [preD_change]
    split
    · exact Nat.le_trans (h.size i) (by omega)
    · have := size_ap_le (h.tidy A.since.length) c
      have := h.size A.since.length
      omega
  · intro i
    rw [preD_change]
    split
    · exact h.tidy i
    · exact Tidy.ap (h.tidy _) c
  · intro i
    show OkD A.file _
    rw [preD_change]
    split
    · exact h.ok i
    · rw [← hnow]; exact h.okNow.ap hc
theorem Inv.setF {A : FsA} {n : Nat} (h : Inv A n) {b : Nat} {f : Fil} (hl : f.data.length ≤ 65536) (hs : f.sure ≤ f.data.length) (hn : 0 ≤ f.num ∧ f.num ≤ n) : Inv (setF A b f) n := by
  refine ⟨h.c, h.l, h.p, h.po, h.room, h.cr, h.since, h.now, h.size, h.tidy, fun i => (h.ok i).mono fun k f' hk => ?_, fun k f' hk => ?_, fun k f' hk => ?_⟩
  · show ∃ f', (if k = b then some f else A.file k) = some f'
    by_cases e : k = b
    · exact ⟨f, by rw [if_pos e]⟩
    · exact ⟨f', by rw [if_neg e]; exact hk⟩
  · have hk' : (if k = b then some f else A.file k) = some f' := hk
    by_cases e : k = b
    · rw [if_pos e] at hk'; cases hk'; exact ⟨hl, hs⟩
    · rw [if_neg e] at hk'; exact h.short k f' hk'
  · have hk' : (if k = b then some f else A.file k) = some f' := hk
    by_cases e : k = b
    · rw [if_pos e] at hk'; cases hk'; exact hn
    · rw [if_neg e] at hk'; exact h.num k f' hk'
theorem Inv.new (room : Int) (h1 : 1 ≤ room) (h2 : room ≤ 1048576) : Inv (newA room) 0 := by
  have hp : ∀ i, preD (newA room) i = .map [] := fun i => by unfold preD newA; simp
  refine ⟨⟨Int.le_refl _, Int.le_refl _⟩, ⟨Int.le_refl _, by show (0 : Int) ≤ _; omega⟩, (by show 0 < _; omega), (fun k hk => by cases hk), ⟨h1, h2⟩, ⟨Int.le_refl _, Int.le_refl _⟩, Nat.le_refl _, (hp _).symm, (fun i => by rw [hp]; exact Nat.le_refl _), (fun i => by rw [hp]; exact tidy_empty), (fun i => ⟨[], hp i, (fun p h => by cases h)⟩), (fun b f h => by cases h), (fun b f h => by cases h)⟩
theorem Inv.dir {A : FsA} {n : Nat} (h : Inv A n) : Inv { A with sure := A.now, since := [] } n := by
  have hp : ∀ i, preD { A with sure := A.now, since := [] } i = A.now := fun i => by unfold preD; simp
  exact ⟨h.c, h.l, h.p, h.po, h.room, h.cr, Nat.zero_le _, (hp _).symm, fun i => by rw [hp]; exact h.sizeNow, fun i => by rw [hp]; exact h.tidyNow, fun i => by show OkD A.file _; rw [hp]; exact h.okNow, h.short, h.num⟩
end Go.Proofs.YtkdjkmnalkalpaaGreatDoor
namespace Go.Proofs.YtkdjkmnalkalpaaGreatDoor
open Go.RowKit Go.Maps Go.WideMaps
set_option maxRecDepth 100000

structure Calm (A : FsA) : Prop where
  a : A.armed = false
  p : A.plan = []
theorem stepA_calm {A : FsA} (h : Calm A) : stepA A = ({ A with count := A.count + 1 }, 0, 0) := by
  obtain ⟨c, ar, l, p, ro, cr, no, su, si, fi⟩ := A
  obtain ⟨h1, h2⟩ := h
  simp only at h1 h2
  subst h1 h2
  rfl
theorem create_calm {A : FsA} (h : Calm A) {s : ByteArray} (hs : nameB s = true) (hd : dget A.now s = none) (hz : Maps.size A.now < 64) (b : Nat) :
    createA A s b = ({ changeA (setF { A with count := A.count + 1 } b ⟨A.created, [], 0⟩) (.create s b) with created := A.created + 1 }, 0) := by
  unfold createA
  rw [if_pos hs, hd, if_neg (by simp), if_neg (by omega), stepA_calm h]
  rfl
theorem findA_some {A : FsA} {s : ByteArray} {b : Nat} (hs : nameB s = true) (hd : dget A.now s = some b) : findA A s = (some b, 0) := by
  unfold findA; rw [if_pos hs, hd]; rfl
theorem findA_none {A : FsA} {s : ByteArray} (hs : nameB s = true) (hd : dget A.now s = none) : findA A s = (none, 3) := by
  unfold findA; rw [if_pos hs, hd]; rfl
theorem findA_bad {A : FsA} {s : ByteArray} (hs : nameB s = false) : findA A s = (none, 7) := by
  unfold findA; rw [hs]; rfl
theorem append_calm {A : FsA} (h : Calm A) {s : ByteArray} {b : Nat} {f : Fil} {p : List Int} (hs : nameB s = true) (hd : dget A.now s = some b) (hf : A.file b = some f) (hl : f.data.length + p.length ≤ 65536) (hr : (usedA A : Int) + p.length ≤ A.room) :
    appendA A s p = (setF { A with count := A.count + 1 } b { f with data := f.data ++ p }, 0) := by
  unfold appendA
  rw [findA_some hs hd]
  simp only [hf]
  unfold putA
  rw [if_neg (by omega), stepA_calm h, if_pos rfl, if_neg (by omega)]
  rfl
theorem sync_calm {A : FsA} (h : Calm A) {s : ByteArray} {b : Nat} {f : Fil} (hs : nameB s = true) (hd : dget A.now s = some b) (hf : A.file b = some f) :
    syncA A s = (setF { A with count := A.count + 1 } b { f with sure := f.data.length }, 0) := by
  unfold syncA
  rw [findA_some hs hd, if_pos rfl]
  unfold doneA
  rw [stepA_calm h, if_pos rfl]
  unfold setF
  simp only
  congr 2
  funext k
  by_cases hk : k = b
  · subst hk; simp [hf]
  · rw [if_neg (fun e => hk (Option.some.inj e)), if_neg hk]
theorem dir_calm {A : FsA} (h : Calm A) : dirA A = ({ A with count := A.count + 1, sure := A.now, since := [] }, 0) := by
  unfold dirA doneA; rw [stepA_calm h, if_pos rfl]
theorem rename_calm {A : FsA} (h : Calm A) {a b : ByteArray} {x : Nat} (ha : nameB a = true) (hb : nameB b = true) (hd : dget A.now a = some x) :
    renameA A a b = (changeA { A with count := A.count + 1 } (.rename a b), 0) := by
  unfold renameA
  rw [if_pos ⟨ha, hb⟩, if_neg (by rw [hd]; simp)]
  unfold doneA
  rw [stepA_calm h, if_pos rfl]
theorem remove_calm {A : FsA} (h : Calm A) {a : ByteArray} {x : Nat} (ha : nameB a = true) (hd : dget A.now a = some x) :
    removeA A a = (changeA { A with count := A.count + 1 } (.remove a), 0) := by
  unfold removeA
  rw [findA_some ha hd, if_pos rfl]
  unfold doneA
  rw [stepA_calm h, if_pos rfl]
theorem Inv.created {A : FsA} {n : Nat} (h : Inv A n) : Inv { A with created := A.created + 1 } (n + 1) := by
  have hm := h.mono (show n ≤ n + 1 by omega)
  exact ⟨hm.c, hm.l, hm.p, hm.po, hm.room, ⟨by show 0 ≤ A.created + 1; have := h.cr; omega, by show A.created + 1 ≤ ((n + 1 : Nat) : Int); have := h.cr; omega⟩, hm.since, hm.now, hm.size, hm.tidy, hm.ok, hm.short, hm.num⟩
theorem same_self (s : ByteArray) : (keyL s).sameKey (keyL s) = true := by unfold keyL; simp [Lit.sameKey]
def oneD (s : ByteArray) (b : Nat) : DataW Unit := .map [(keyL s, .lit (.int .i64 (b : Nat)))]
theorem one_get (s : ByteArray) (b : Nat) : dget (oneD s b) s = some b := by
  unfold oneD dget DataW.atKey; simp [same_self]
structure One (A : FsA) (s : ByteArray) (b : Nat) (f : Fil) (room : Int) (n : Nat) : Prop where
  inv : Inv A n
  calm : Calm A
  name : nameB s = true
  now : A.now = oneD s b
  file : A.file b = some f
  room : A.room = room
theorem One.get {A : FsA} {s : ByteArray} {b : Nat} {f : Fil} {room : Int} {n : Nat} (h : One A s b f room n) : dget A.now s = some b := by rw [h.now]; exact one_get s b
end Go.Proofs.YtkdjkmnalkalpaaGreatDoor
namespace Go.Proofs.YtkdjkmnalkalpaaGreatDoor
open Go.RowKit Go.Maps Go.WideMaps
set_option maxRecDepth 100000

def Own (w0 w : World) (g : Nat) (A : FsA) : Prop := ∃ S : Nat → Prop, Fs w g S A ∧ (∀ k, S k → w0.heap.size ≤ k ∧ k < w.heap.size) ∧ Below w0.heap.size w0 w
section
variable {w0 w w' : World} {g : Nat} {A A' : FsA}
theorem Own.base (h : Own w0 w g A) : Below w0.heap.size w0 w := h.choose_spec.2.2
end
theorem run_string {w : World} {v : Value} {p : List Int} (h : Bytes w v p) : (convert 38 9 v).run Tryz.prog w = .ok (.string (strOfNums p)) w := by
  rcases h with ⟨rfl, rfl⟩ | ⟨a, rfl, rfl⟩ | ⟨pb, po, cap, rfl, _, _, h4⟩
  · exact run_convert_bytes_nil w 38 5 Tryz.underlying38 Tryz.underlying5 0 0 9 Tryz.underlying9
  · have hl : (loadCells a 0).run Tryz.prog w = .ok (([] : List Int).map (Value.int .u8)).toArray w := run_loadCells_list (P := Tryz.prog) w a [] (fun j v hj => by cases hj)
    rw [run_convert_bytes_string w 38 9 5 _ 0 0 Tryz.underlying38 Tryz.underlying5 Tryz.underlying9, run_bytesToString w _ 0 0 [] hl]
    rfl
  · refine run_convert_bytes_arg w 38 5 Tryz.underlying38 Tryz.underlying5 pb po p.length cap p rfl (fun i hi => h4 i _ ?_) 9 Tryz.underlying9
    rw [List.getElem?_map, List.getD_eq_getElem?_getD, List.getElem?_eq_getElem hi]; rfl

end Go.Proofs.YtkdjkmnalkalpaaGreatDoor
namespace Go.Proofs.YtkdjkmnalkalpaaGreatDoor
open Go.RowKit Go.Maps Go.WideMaps
set_option maxRecDepth 100000

section
variable {w0 w w' : World} {g : Nat} {A A' : FsA}
end
end Go.Proofs.YtkdjkmnalkalpaaGreatDoor
