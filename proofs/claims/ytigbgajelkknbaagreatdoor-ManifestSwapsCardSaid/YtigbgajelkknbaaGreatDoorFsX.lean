/- Package simfs: what holds of every file system; how its parts are looked up. Plain; nothing is walked. Package simfs: calls that go well, and what they make. Package simfs: the laws' fixed fact. Package simfs: a name by definition; one file's further life; names that are none. -/
import Derived.Test.YtigbgajelkknbaaGreatDoorFsT
import Derived.Laws.BytesArg
import Derived.Lib.SlBytesConst
namespace Go.Proofs.YtigbgajelkknbaaGreatDoor
open Go.RowKit Go.Maps Go.WideMaps
set_option maxRecDepth 100000

structure Inv (A : FsA) (n : Nat) : Prop where
  c : 0 ≤ A.count ∧ A.count ≤ n
  l : 0 ≤ A.left ∧ A.left ≤ 9223372036854775807
  p : A.plan.length < 9223372036854775807
  po : PlanOk A
  room : 1 ≤ A.room ∧ A.room ≤ 1048576
  cr : 0 ≤ A.created ∧ A.created ≤ n
  since : A.since.length ≤ n
  now : A.now = preD A A.since.length
  size : ∀ i, Maps.size (preD A i) ≤ n
  tidy : ∀ i, Maps.Tidy (preD A i)
  ok : ∀ i, OkD A.file (preD A i)
  short : Short A
  num : ∀ b f, A.file b = some f → 0 ≤ f.num ∧ f.num ≤ n
theorem Inv.Num {A : FsA} {n : Nat} (h : Inv A n) (hn : n < 1000) : Num A := ⟨⟨h.c.1, by have := h.c.2; omega⟩, h.l, h.p⟩
theorem Inv.few {A : FsA} {n : Nat} (h : Inv A n) (hn : n < 1000) : Few A := ⟨by rw [h.now]; have := h.size A.since.length; omega, by have := h.since; omega⟩
theorem Inv.okNow {A : FsA} {n : Nat} (h : Inv A n) : OkD A.file A.now := by rw [h.now]; exact h.ok _
theorem Inv.sizeNow {A : FsA} {n : Nat} (h : Inv A n) : Maps.size A.now ≤ n := by rw [h.now]; exact h.size _
theorem Inv.tidyNow {A : FsA} {n : Nat} (h : Inv A n) : Maps.Tidy A.now := by rw [h.now]; exact h.tidy _
theorem Inv.named {A : FsA} {n : Nat} (h : Inv A n) : Named A := h.okNow.named
theorem Inv.crashy {A : FsA} {n : Nat} (h : Inv A n) (hn : n < 1000) : Crashy A := ⟨by have := h.since; omega, fun i => by have := h.size i; omega, h.ok, h.short, fun b f e => by have := h.num b f e; omega, by have := h.room; omega⟩

-- what is looked up
theorem dget_put_same {D : DataW Unit} (h : Maps.IsMap D) (s : ByteArray) (b : Nat) : dget (D.put (keyL s) (.lit (.int .i64 (b : Nat)))) s = some b := by
  unfold dget; rw [atKey_put_same h (keyLit s)]; simp
theorem dget_put_other {D : DataW Unit} {s t : ByteArray} (h : t ≠ s) (d : DataW Unit) : dget (D.put (keyL s) d) t = dget D t := by
  unfold dget; rw [atKey_put_other (fun e => h (keyL_inj e))]
theorem dget_del_same {D : DataW Unit} (s : ByteArray) : dget (D.del (keyL s)) s = none := by
  unfold dget; rw [atKey_del_same]
theorem dget_del_other {D : DataW Unit} {s t : ByteArray} (h : t ≠ s) : dget (D.del (keyL s)) t = dget D t := by
  unfold dget; rw [atKey_del_other (fun e => h (keyL_inj e))]
theorem dget_empty (s : ByteArray) : dget (.map []) s = none := rfl
theorem OkD.mono {fl fl' : Nat → Option Fil} {D : DataW Unit} (h : OkD fl D) (hm : ∀ b f, fl b = some f → ∃ f', fl' b = some f') : OkD fl' D := by
  obtain ⟨es, he, hp⟩ := h
  refine ⟨es, he, fun p hpm => ?_⟩
  obtain ⟨s, b, f, h1, h2, h3, h4⟩ := hp p hpm
  obtain ⟨f', hf'⟩ := hm b f h4
  exact ⟨s, b, f', h1, h2, h3, hf'⟩
theorem OkD.put {fl : Nat → Option Fil} {D : DataW Unit} (h : OkD fl D) {s : ByteArray} {b : Nat} {f : Fil} (hs : s.size ≤ 20) (hb : fl b = some f) : OkD fl (D.put (keyL s) (.lit (.int .i64 (b : Nat)))) := by
  obtain ⟨es, rfl, hp⟩ := h
  refine ⟨_, rfl, fun p hpm => ?_⟩
  rcases ChangeMaps.mem_insert_iff.1 hpm with rfl | hpm
  · exact ⟨s, b, f, rfl, hs, rfl, hb⟩
  · exact hp p (List.mem_filter.1 hpm).1
theorem OkD.del {fl : Nat → Option Fil} {D : DataW Unit} (h : OkD fl D) (k : Lit) : OkD fl (D.del k) := by
  obtain ⟨es, rfl, hp⟩ := h
  exact ⟨_, rfl, fun p hpm => hp p (List.mem_filter.1 hpm).1⟩
theorem Tidy.ap {D : DataW Unit} (h : Maps.Tidy D) (c : Chg) : Maps.Tidy (c.ap D) := by
  cases c with
  | create n b => exact h.put (keyLit n) _
  | rename a b => exact (h.del _).put (keyLit b) _
  | remove a => exact h.del _
/-- A change that may be made. -/
def Can (A : FsA) : Chg → Prop
  | .create n b => n.size ≤ 20 ∧ ∃ f, A.file b = some f
  | .rename a b => b.size ≤ 20 ∧ ∃ x, dget A.now a = some x
  | .remove _ => True
theorem OkD.ap {A : FsA} (h : OkD A.file A.now) {c : Chg} (hc : Can A c) : OkD A.file (c.ap A.now) := by
  cases c with
  | create n b => obtain ⟨h1, f, h2⟩ := hc; exact h.put h1 h2
  | rename a b =>
    obtain ⟨h1, x, h2⟩ := hc
    obtain ⟨f, hf⟩ := h.named a x h2
    show OkD A.file ((A.now.del _).put _ (datOf (dget A.now a)))
    rw [h2]
    exact (h.del _).put h1 hf
  | remove a => exact h.del _
theorem preD_big (A : FsA) {i : Nat} (h : A.since.length ≤ i) : preD A i = preD A A.since.length := by
  unfold preD; rw [List.take_of_length_le h, List.take_of_length_le (Nat.le_refl _)]
theorem preD_change (A : FsA) (c : Chg) (i : Nat) : preD (changeA A c) i = if i ≤ A.since.length then preD A i else c.ap (preD A A.since.length) := by
  unfold preD changeA
  simp only
  by_cases h : i ≤ A.since.length
  · rw [if_pos h, List.take_append_of_le_length h]
  · rw [if_neg h, List.take_of_length_le (by simp; omega), List.foldl_append, List.take_of_length_le (Nat.le_refl _)]; rfl
theorem Inv.mono {A : FsA} {n m : Nat} (h : Inv A n) (hm : n ≤ m) : Inv A m :=
  ⟨⟨h.c.1, by have := h.c.2; omega⟩, h.l, h.p, h.po, h.room, ⟨h.cr.1, by have := h.cr.2; omega⟩, by have := h.since; omega, h.now, fun i => Nat.le_trans (h.size i) hm, h.tidy, h.ok, h.short, fun b f e => ⟨(h.num b f e).1, by have := (h.num b f e).2; omega⟩⟩
theorem Inv.step {A : FsA} {n : Nat} (h : Inv A n) : Inv (stepA A).1 (n + 1) := by
  by_cases hd : deadB A.armed A.left = true
  · have e : (stepA A).1 = A := by unfold stepA; rw [if_pos hd]
    rw [e]; exact h.mono (by omega)
  · have e : (stepA A).1 = { A with count := A.count + 1, left := if A.armed = true then A.left - 1 else A.left, plan := A.plan.tail } := by unfold stepA; rw [if_neg hd]
    rw [e]
    refine ⟨⟨by show 0 ≤ A.count + 1; have := h.c; omega, by show A.count + 1 ≤ ((n + 1 : Nat) : Int); have := h.c; omega⟩, ?_, ?_, fun k hk => h.po k (List.mem_of_mem_tail hk), h.room, ⟨h.cr.1, by show A.created ≤ ((n + 1 : Nat) : Int); have := h.cr; omega⟩, by show A.since.length ≤ n + 1; have := h.since; omega, h.now, fun i => Nat.le_trans (h.size i) (by omega), h.tidy, h.ok, h.short, fun b f e => ⟨(h.num b f e).1, by have := (h.num b f e).2; omega⟩⟩
    · show 0 ≤ (if A.armed = true then A.left - 1 else A.left) ∧ (if A.armed = true then A.left - 1 else A.left) ≤ 9223372036854775807
      have := h.l
      by_cases ha : A.armed = true
      · rw [if_pos ha]
        have h0 : A.left ≠ 0 := fun e0 => hd (by unfold deadB; rw [ha, e0]; rfl)
        omega
      · rw [if_neg ha]; exact h.l
    · show A.plan.tail.length < _
      have := h.p; rw [List.length_tail]; omega
theorem Inv.change {A : FsA} {n : Nat} (h : Inv A n) {c : Chg} (hc : Can A c) : Inv (changeA A c) (n + 1) := by
  have hnow := h.now
  refine ⟨⟨h.c.1, by show A.count ≤ ((n + 1 : Nat) : Int); have := h.c; omega⟩, h.l, h.p, h.po, h.room, ⟨h.cr.1, by show A.created ≤ ((n + 1 : Nat) : Int); have := h.cr; omega⟩, by show (A.since ++ [c]).length ≤ n + 1; have := h.since; simp; omega, ?_, ?_, ?_, ?_, h.short, fun b f e => ⟨(h.num b f e).1, by have := (h.num b f e).2; omega⟩⟩
  · rw [preD_change, if_neg (by show ¬ (A.since ++ [c]).length ≤ _; simp), ← hnow]; rfl
  · intro i
    rw [preD_change]
    split
    · exact Nat.le_trans (h.size i) (by omega)
    · have := size_ap_le (h.tidy A.since.length) c
      have := h.size A.since.length
      omega
  · intro i
    rw [preD_change]
    split
    · exact h.tidy i
    · exact Tidy.ap (h.tidy _) c
  · intro i
    show OkD A.file _
    rw [preD_change]
    split
    · exact h.ok i
    · rw [← hnow]; exact h.okNow.ap hc
/-- A file's bytes, or a file that is new. -/
theorem Inv.setF {A : FsA} {n : Nat} (h : Inv A n) {b : Nat} {f : Fil} (hl : f.data.length ≤ 65536) (hs : f.sure ≤ f.data.length) (hn : 0 ≤ f.num ∧ f.num ≤ n) : Inv (setF A b f) n := by
  refine ⟨h.c, h.l, h.p, h.po, h.room, h.cr, h.since, h.now, h.size, h.tidy, fun i => (h.ok i).mono fun k f' hk => ?_, fun k f' hk => ?_, fun k f' hk => ?_⟩
  · show ∃ f', (if k = b then some f else A.file k) = some f'
    by_cases e : k = b
    · exact ⟨f, by rw [if_pos e]⟩
    · exact ⟨f', by rw [if_neg e]; exact hk⟩
  · have hk' : (if k = b then some f else A.file k) = some f' := hk
    by_cases e : k = b
    · rw [if_pos e] at hk'; cases hk'; exact ⟨hl, hs⟩
    · rw [if_neg e] at hk'; exact h.short k f' hk'
  · have hk' : (if k = b then some f else A.file k) = some f' := hk
    by_cases e : k = b
    · rw [if_pos e] at hk'; cases hk'; exact hn
    · rw [if_neg e] at hk'; exact h.num k f' hk'
theorem Inv.new (room : Int) (h1 : 1 ≤ room) (h2 : room ≤ 1048576) : Inv (newA room) 0 := by
  have hp : ∀ i, preD (newA room) i = .map [] := fun i => by unfold preD newA; simp
  refine ⟨⟨Int.le_refl _, Int.le_refl _⟩, ⟨Int.le_refl _, by show (0 : Int) ≤ _; omega⟩, (by show 0 < _; omega), (fun k hk => by cases hk), ⟨h1, h2⟩, ⟨Int.le_refl _, Int.le_refl _⟩, Nat.le_refl _, (hp _).symm, (fun i => by rw [hp]; exact Nat.le_refl _), (fun i => by rw [hp]; exact tidy_empty), (fun i => ⟨[], hp i, (fun p h => by cases h)⟩), (fun b f h => by cases h), (fun b f h => by cases h)⟩
theorem Inv.dir {A : FsA} {n : Nat} (h : Inv A n) : Inv { A with sure := A.now, since := [] } n := by
  have hp : ∀ i, preD { A with sure := A.now, since := [] } i = A.now := fun i => by unfold preD; simp
  exact ⟨h.c, h.l, h.p, h.po, h.room, h.cr, Nat.zero_le _, (hp _).symm, fun i => by rw [hp]; exact h.sizeNow, fun i => by rw [hp]; exact h.tidyNow, fun i => by show OkD A.file _; rw [hp]; exact h.okNow, h.short, h.num⟩
end Go.Proofs.YtigbgajelkknbaaGreatDoor
namespace Go.Proofs.YtigbgajelkknbaaGreatDoor
open Go.RowKit Go.Maps Go.WideMaps
set_option maxRecDepth 100000

/-- Not armed, nothing planned. -/
structure Calm (A : FsA) : Prop where
  a : A.armed = false
  p : A.plan = []
theorem stepA_calm {A : FsA} (h : Calm A) : stepA A = ({ A with count := A.count + 1 }, 0, 0) := by
  obtain ⟨c, ar, l, p, ro, cr, no, su, si, fi⟩ := A
  obtain ⟨h1, h2⟩ := h
  simp only at h1 h2
  subst h1 h2
  rfl
theorem create_calm {A : FsA} (h : Calm A) {s : ByteArray} (hs : nameB s = true) (hd : dget A.now s = none) (hz : Maps.size A.now < 64) (b : Nat) :
    createA A s b = ({ changeA (setF { A with count := A.count + 1 } b ⟨A.created, [], 0⟩) (.create s b) with created := A.created + 1 }, 0) := by
  unfold createA
  rw [if_pos hs, hd, if_neg (by simp), if_neg (by omega), stepA_calm h]
  rfl
theorem findA_some {A : FsA} {s : ByteArray} {b : Nat} (hs : nameB s = true) (hd : dget A.now s = some b) : findA A s = (some b, 0) := by
  unfold findA; rw [if_pos hs, hd]; rfl
theorem findA_none {A : FsA} {s : ByteArray} (hs : nameB s = true) (hd : dget A.now s = none) : findA A s = (none, 3) := by
  unfold findA; rw [if_pos hs, hd]; rfl
theorem findA_bad {A : FsA} {s : ByteArray} (hs : nameB s = false) : findA A s = (none, 7) := by
  unfold findA; rw [hs]; rfl
theorem append_calm {A : FsA} (h : Calm A) {s : ByteArray} {b : Nat} {f : Fil} {p : List Int} (hs : nameB s = true) (hd : dget A.now s = some b) (hf : A.file b = some f) (hl : f.data.length + p.length ≤ 65536) (hr : (usedA A : Int) + p.length ≤ A.room) :
    appendA A s p = (setF { A with count := A.count + 1 } b { f with data := f.data ++ p }, 0) := by
  unfold appendA
  rw [findA_some hs hd]
  simp only [hf]
  unfold putA
  rw [if_neg (by omega), stepA_calm h, if_pos rfl, if_neg (by omega)]
  rfl
theorem sync_calm {A : FsA} (h : Calm A) {s : ByteArray} {b : Nat} {f : Fil} (hs : nameB s = true) (hd : dget A.now s = some b) (hf : A.file b = some f) :
    syncA A s = (setF { A with count := A.count + 1 } b { f with sure := f.data.length }, 0) := by
  unfold syncA
  rw [findA_some hs hd, if_pos rfl]
  unfold doneA
  rw [stepA_calm h, if_pos rfl]
  unfold setF
  simp only
  congr 2
  funext k
  by_cases hk : k = b
  · subst hk; simp [hf]
  · rw [if_neg (fun e => hk (Option.some.inj e)), if_neg hk]
theorem dir_calm {A : FsA} (h : Calm A) : dirA A = ({ A with count := A.count + 1, sure := A.now, since := [] }, 0) := by
  unfold dirA doneA; rw [stepA_calm h, if_pos rfl]
theorem rename_calm {A : FsA} (h : Calm A) {a b : ByteArray} {x : Nat} (ha : nameB a = true) (hb : nameB b = true) (hd : dget A.now a = some x) :
    renameA A a b = (changeA { A with count := A.count + 1 } (.rename a b), 0) := by
  unfold renameA
  rw [if_pos ⟨ha, hb⟩, if_neg (by rw [hd]; simp)]
  unfold doneA
  rw [stepA_calm h, if_pos rfl]
theorem remove_calm {A : FsA} (h : Calm A) {a : ByteArray} {x : Nat} (ha : nameB a = true) (hd : dget A.now a = some x) :
    removeA A a = (changeA { A with count := A.count + 1 } (.remove a), 0) := by
  unfold removeA
  rw [findA_some ha hd, if_pos rfl]
  unfold doneA
  rw [stepA_calm h, if_pos rfl]
theorem Inv.count {A : FsA} {n : Nat} (h : Inv A n) : Inv { A with count := A.count + 1 } (n + 1) := by
  have hm := h.mono (show n ≤ n + 1 by omega)
  exact ⟨⟨by show 0 ≤ A.count + 1; have := h.c; omega, by show A.count + 1 ≤ ((n + 1 : Nat) : Int); have := h.c; omega⟩, hm.l, hm.p, hm.po, hm.room, hm.cr, hm.since, hm.now, hm.size, hm.tidy, hm.ok, hm.short, hm.num⟩
theorem Inv.created {A : FsA} {n : Nat} (h : Inv A n) : Inv { A with created := A.created + 1 } (n + 1) := by
  have hm := h.mono (show n ≤ n + 1 by omega)
  exact ⟨hm.c, hm.l, hm.p, hm.po, hm.room, ⟨by show 0 ≤ A.created + 1; have := h.cr; omega, by show A.created + 1 ≤ ((n + 1 : Nat) : Int); have := h.cr; omega⟩, hm.since, hm.now, hm.size, hm.tidy, hm.ok, hm.short, hm.num⟩
theorem Inv.createCalm {A : FsA} {n : Nat} (h : Inv A n) {s : ByteArray} (hs : s.size ≤ 20) (b : Nat) :
    Inv { changeA (Go.Proofs.YtigbgajelkknbaaGreatDoor.setF { A with count := A.count + 1 } b ⟨A.created, [], 0⟩) (.create s b) with created := A.created + 1 } (n + 3) := by
  have h1 := h.count
  have h2 := h1.setF (b := b) (f := ⟨A.created, [], 0⟩) (by simp) (Nat.zero_le _) ⟨h.cr.1, by show A.created ≤ ((n + 1 : Nat) : Int); have := h.cr; omega⟩
  have h3 := h2.change (c := .create s b) ⟨hs, ⟨A.created, [], 0⟩, by show (if b = b then _ else _) = _; rw [if_pos rfl]⟩
  exact h3.created

/-- A text's name "a". -/
def nA : ByteArray := ⟨#[97]⟩
theorem nameA : nameB nA = true := by decide +kernel
theorem same_self (s : ByteArray) : (keyL s).sameKey (keyL s) = true := by unfold keyL; simp [Lit.sameKey]
/-- One name alone. -/
def oneD (s : ByteArray) (b : Nat) : DataW Unit := .map [(keyL s, .lit (.int .i64 (b : Nat)))]
theorem one_put (s : ByteArray) (b : Nat) : (DataW.map []).put (keyL s) (.lit (.int .i64 (b : Nat))) = oneD s b := rfl
theorem one_del (s : ByteArray) (b : Nat) : (oneD s b).del (keyL s) = .map [] := by
  unfold oneD DataW.del; simp [same_self]
theorem one_get (s : ByteArray) (b : Nat) : dget (oneD s b) s = some b := by
  unfold oneD dget DataW.atKey; simp [same_self]
theorem one_names (s : ByteArray) (b : Nat) : namesD (oneD s b) = [s.data.toList] := by
  unfold namesD oneD strKeys; simp [keyL, strOf]
theorem none_names : namesD (.map [] : DataW Unit) = [] := by unfold namesD strKeys; simp
/-- A file system with one file. -/
structure One (A : FsA) (s : ByteArray) (b : Nat) (f : Fil) (room : Int) (n : Nat) : Prop where
  inv : Inv A n
  calm : Calm A
  name : nameB s = true
  now : A.now = oneD s b
  file : A.file b = some f
  room : A.room = room
theorem One.get {A : FsA} {s : ByteArray} {b : Nat} {f : Fil} {room : Int} {n : Nat} (h : One A s b f room n) : dget A.now s = some b := by rw [h.now]; exact one_get s b
theorem One.size {A : FsA} {s : ByteArray} {b : Nat} {f : Fil} {room : Int} {n : Nat} (h : One A s b f room n) : Maps.size A.now = 1 := by rw [h.now]; rfl
theorem One.used {A : FsA} {s : ByteArray} {b : Nat} {f : Fil} {room : Int} {n : Nat} (h : One A s b f room n) : usedA A = f.data.length := by
  unfold usedA; rw [h.now]; unfold oneD usedD tot wt; simp [h.file]
theorem One.bound {A : FsA} {s : ByteArray} {b : Nat} {f : Fil} {room : Int} {n : Nat} (h : One A s b f room n) : s.size ≤ 20 := (nameB_size h.name).2
theorem One.set {A : FsA} {s : ByteArray} {b : Nat} {f f' : Fil} {room : Int} {n : Nat} (h : One A s b f room n) (hl : f'.data.length ≤ 65536) (hs : f'.sure ≤ f'.data.length) (hn : f'.num = f.num) : One (setF { A with count := A.count + 1 } b f') s b f' room (n + 1) :=
  ⟨h.inv.count.setF hl hs (by rw [hn]; have := h.inv.num b f h.file; exact ⟨this.1, by have := this.2; omega⟩), ⟨h.calm.a, h.calm.p⟩, h.name, h.now, by show (if b = b then _ else _) = _; rw [if_pos rfl], h.room⟩

theorem create1_one (g : Nat) (S : Nat → Prop) (s : ByteArray) (room : Int) (w : World) (hF : Fs w g S (newA room)) (h1 : 1 ≤ room) (h2 : room ≤ 1048576) (hs : nameB s = true) :
    Calls Tryz.prog 43 #[.pointer (some ⟨g, 0, none⟩), .string s] w fun e w' => ∃ b A', e = .returned (.int .i64 0) ∧ Fs w' g (grow S w w') A' ∧ One A' s b ⟨0, [], 0⟩ room 3 ∧ A'.sure = .map [] ∧ A'.since = [.create s b] ∧ Keep S w w' := by
  have hI := Inv.new room h1 h2
  have hsz := (nameB_size hs).2
  refine (create_any g S (newA room) s w hF (hI.Num (by omega)) (by omega) ⟨by show (0 : Int) ≤ 0; omega, by show (0 : Int) < _; omega⟩ (by show 0 < 1000; omega) (by show 0 < 1000; omega)).mono ?_
  rintro e w' ⟨b, _, he, hF', hK⟩
  rw [create_calm ⟨rfl, rfl⟩ hs rfl (by show 0 < 64; omega) b] at he hF'
  exact ⟨b, _, he, hF', ⟨hI.createCalm hsz b, ⟨rfl, rfl⟩, hs, rfl, by show (if b = b then _ else _) = _; rw [if_pos rfl]; rfl, rfl⟩, rfl, rfl, hK⟩
theorem append_one (g : Nat) (S : Nat → Prop) (A : FsA) (s : ByteArray) (b : Nat) (f : Fil) (room : Int) (n : Nat) (v : Value) (p : List Int) (w : World) (hF : Fs w g S A) (hO : One A s b f room n) (hn : n < 900) (hp : Bytes w v p) (hvS : ∀ x, v.ownBlock = some x → ¬ S x)
    (hl : f.data.length + p.length ≤ 65536) (hr : (f.data.length : Int) + p.length ≤ room) :
    Calls Tryz.prog 44 #[.pointer (some ⟨g, 0, none⟩), .string s, v] w fun e w' => ∃ A', e = .returned (.int .i64 0) ∧ Fs w' g (grow S w w') A' ∧ One A' s b { f with data := f.data ++ p } room (n + 1) ∧ A'.sure = A.sure ∧ A'.since = A.since ∧ Keep S w w' := by
  have hsz := hO.bound
  refine (append_any g S A s v p w hF (hO.inv.Num (by omega)) hO.inv.po hO.inv.okNow hO.inv.short (by rw [hO.size]; omega) hO.inv.room (by omega) hp (by omega) fun x hx => hvS x hx.1).mono ?_
  rintro e w' ⟨he, hF', hK⟩
  rw [append_calm hO.calm hO.name hO.get hO.file hl (by rw [hO.used, hO.room]; exact hr)] at he hF'
  exact ⟨_, he, hF', hO.set (by simp; omega) (by have := (hO.inv.short b f hO.file).2; simp; omega) rfl, rfl, rfl, hK⟩
theorem sync_one (g : Nat) (S : Nat → Prop) (A : FsA) (s : ByteArray) (b : Nat) (f : Fil) (room : Int) (n : Nat) (w : World) (hF : Fs w g S A) (hO : One A s b f room n) (hn : n < 900) :
    Calls Tryz.prog 53 #[.pointer (some ⟨g, 0, none⟩), .string s] w fun e w' => ∃ A', e = .returned (.int .i64 0) ∧ Fs w' g S A' ∧ One A' s b { f with sure := f.data.length } room (n + 1) ∧ A'.sure = A.sure ∧ A'.since = A.since ∧ Keep S w w' := by
  have hsz := hO.bound
  refine (sync_any g S A s w hF (hO.inv.Num (by omega)) hO.inv.named (by omega)).mono ?_
  rintro e w' ⟨he, hF', hK⟩
  rw [sync_calm hO.calm hO.name hO.get hO.file] at he hF'
  exact ⟨_, he, hF', hO.set (hO.inv.short b f hO.file).1 (Nat.le_refl _) rfl, rfl, rfl, hK⟩
/-- What is read of the one file. -/
theorem read_one (g : Nat) (S : Nat → Prop) (A : FsA) (s : ByteArray) (b : Nat) (f : Fil) (room : Int) (n : Nat) (w : World) (hF : Fs w g S A) (hO : One A s b f room n) :
    Calls Tryz.prog 47 #[.pointer (some ⟨g, 0, none⟩), .string s] w fun e w' => ∃ v, e = .returned (.tuple #[v, .int .i64 0]) ∧ Copied w w' v f.data := by
  have hsz := hO.bound
  have hr : readA A s = (f.data, 0) := by unfold readA; rw [findA_some hO.name hO.get]; simp [hO.file]
  have := read_any g S A s w hF hO.inv.named hO.inv.short (by omega)
  rw [hr] at this
  exact this
/-- A crash of it. -/
theorem crash_one (g : Nat) (S : Nat → Prop) (A : FsA) (s : ByteArray) (b : Nat) (f : Fil) (room : Int) (n : Nat) (v : Value) (tails : List Int) (w : World) (hF : Fs w g S A) (hO : One A s b f room n) (hn : n < 900) (hsu : A.sure = .map []) (hsi : A.since = [.create s b])
    (hv : Ints w v tails) (htl : tails.length < 1000) :
    Calls Tryz.prog 42 #[.pointer (some ⟨g, 0, none⟩), .int .i64 1, v] w fun e w' => ∃ g' b' X, e = .returned (.pointer (some ⟨g', 0, none⟩)) ∧ Fs w' g' (newB w w') X ∧ One X s b' (crashedF f (tails.getD f.num.toNat 0) 0) room 1 ∧ Below w.heap.size w w' := by
  refine (crash_any g S A 1 v tails w hF (hO.inv.crashy (by omega)) hv (by omega)).mono ?_
  rintro e w' ⟨g', bs, he, hbl, _, _, hF', hB⟩
  have hL : leftD A 1 = oneD s b := by
    unfold leftD preD; rw [hsi, hsu]; rfl
  rw [hL, one_names] at hbl
  obtain ⟨b', rfl⟩ : ∃ b', bs = [b'] := List.length_eq_one_iff.1 hbl
  have hfo : fileOf A (oneD s b) s.data.toList = f := by
    unfold fileOf
    rw [show (⟨s.data.toList.toArray⟩ : ByteArray) = s by apply ByteArray.ext; simp, one_get]
    simp [hO.file]
  have hcl : (crashedF f (tails.getD f.num.toNat 0) 0).data.length ≤ 65536 ∧ (crashedF f (tails.getD f.num.toNat 0) 0).sure ≤ (crashedF f (tails.getD f.num.toNat 0) 0).data.length := by
    have h1 := hO.inv.short b f hO.file
    have h2 := leftN_le f (tails.getD f.num.toNat 0) h1.2
    unfold crashedF
    simp only [List.length_take]; omega
  have hX : crashA A 1 tails [b'] = { newA room with file := (fun k => if k = b' then some (crashedF f (tails.getD f.num.toNat 0) 0) else none), now := oneD s b', sure := oneD s b', created := 1 } := by
    unfold crashA
    rw [hL, one_names]
    simp only [List.zip_cons_cons, List.zip_nil_right, crashX, List.foldl_cons, List.foldl_nil]
    unfold crashStep
    rw [hfo, hO.room]
    rfl
  rw [hX] at hF'
  refine ⟨g', b', _, he, hF', ⟨?_, ⟨rfl, rfl⟩, hO.name, rfl, by show (if b' = b' then _ else _) = _; rw [if_pos rfl], rfl⟩, hB⟩
  have hr := hO.inv.room
  rw [hO.room] at hr
  have hnew := (Inv.new room hr.1 hr.2).mono (show 0 ≤ 1 by omega)
  have hp : ∀ i, preD ({ newA room with file := (fun k => if k = b' then some (crashedF f (tails.getD f.num.toNat 0) 0) else none), now := oneD s b', sure := oneD s b', created := 1 } : FsA) i = oneD s b' := fun i => by unfold preD newA; simp
  have hok : OkD (fun k => if k = b' then some (crashedF f (tails.getD f.num.toNat 0) 0) else none) (oneD s b') := ⟨_, rfl, fun p hpm => by
    obtain rfl := List.mem_singleton.1 hpm
    exact ⟨s, b', _, rfl, hO.bound, rfl, if_pos rfl⟩⟩
  have hsh : Short ({ newA room with file := (fun k => if k = b' then some (crashedF f (tails.getD f.num.toNat 0) 0) else none), now := oneD s b', sure := oneD s b', created := 1 } : FsA) := fun k f' hk => by
    have hk' : (if k = b' then some (crashedF f (tails.getD f.num.toNat 0) 0) else none) = some f' := hk
    by_cases e : k = b'
    · rw [if_pos e] at hk'; cases hk'; exact hcl
    · rw [if_neg e] at hk'; cases hk'
  have hnu : ∀ k f', ({ newA room with file := (fun k => if k = b' then some (crashedF f (tails.getD f.num.toNat 0) 0) else none), now := oneD s b', sure := oneD s b', created := 1 } : FsA).file k = some f' → 0 ≤ f'.num ∧ f'.num ≤ ((1 : Nat) : Int) := fun k f' hk => by
    have hk' : (if k = b' then some (crashedF f (tails.getD f.num.toNat 0) 0) else none) = some f' := hk
    by_cases e : k = b'
    · rw [if_pos e] at hk'; cases hk'; exact ⟨by show (0 : Int) ≤ 0; omega, by show (0 : Int) ≤ ((1 : Nat) : Int); omega⟩
    · rw [if_neg e] at hk'; cases hk'
  exact ⟨hnew.c, hnew.l, hnew.p, hnew.po, hnew.room, ⟨by show (0 : Int) ≤ 1; omega, by show (1 : Int) ≤ ((1 : Nat) : Int); omega⟩, Nat.zero_le _, (hp _).symm, (fun i => by rw [hp]; exact Nat.le_refl 1), (fun i => by rw [hp]; exact ⟨_, rfl, List.pairwise_singleton _ _⟩), (fun i => by rw [hp]; exact hok), hsh, hnu⟩
end Go.Proofs.YtigbgajelkknbaaGreatDoor
namespace Go.Proofs.YtigbgajelkknbaaGreatDoor
open Go.RowKit Go.Maps Go.WideMaps
set_option maxRecDepth 100000

/-- A file system that was made since w0, in blocks of its own. -/
def Own (w0 w : World) (g : Nat) (A : FsA) : Prop := ∃ S : Nat → Prop, Fs w g S A ∧ (∀ k, S k → w0.heap.size ≤ k ∧ k < w.heap.size) ∧ Below w0.heap.size w0 w
section
variable {w0 w w' : World} {g : Nat} {A A' : FsA}
theorem Own.base (h : Own w0 w g A) : Below w0.heap.size w0 w := h.choose_spec.2.2
theorem Own.below (h : Own w0 w g A) (hb : Below w.heap.size w w') : Own w0 w' g A := by
  obtain ⟨S, h1, h2, h3⟩ := h
  exact ⟨S, h1.below hb, fun k hk => ⟨(h2 k hk).1, Nat.lt_of_lt_of_le (h2 k hk).2 hb.size⟩, h3.trans (hb.mono h3.size)⟩
theorem own_next {S : Nat → Prop} (h2 : ∀ k, S k → w0.heap.size ≤ k ∧ k < w.heap.size) (h3 : Below w0.heap.size w0 w) (hF : Fs w' g (grow S w w') A') (hK : Keep S w w') : Own w0 w' g A' :=
  ⟨_, hF, fun k hk => hk.elim (fun h => ⟨(h2 k h).1, Nat.lt_of_lt_of_le (h2 k h).2 hK.size⟩) (fun h => ⟨Nat.le_trans h3.size h.1, h.2⟩),
    ⟨hK.os.trans h3.os, hK.tape.trans h3.tape, hK.output.trans h3.output, Nat.le_trans h3.size hK.size, fun k hk => (hK.block k (Nat.lt_of_lt_of_le hk h3.size) (fun hS => by have := (h2 k hS).1; omega)).trans (h3.block k hk)⟩⟩
theorem own_same {S : Nat → Prop} (h2 : ∀ k, S k → w0.heap.size ≤ k ∧ k < w.heap.size) (h3 : Below w0.heap.size w0 w) (hF : Fs w' g S A') (hK : Keep S w w') : Own w0 w' g A' :=
  own_next h2 h3 (hF.to grow_left fun _ _ _ => rfl) hK
theorem new_own (room : Int) (h1 : 1 ≤ room) (h2 : room ≤ 1048576) (w0 w : World) (h : Below w0.heap.size w0 w) :
    Calls Tryz.prog 10 #[.int .i64 room] w fun e w' => ∃ g, e = .returned (.tuple #[.pointer (some ⟨g, 0, none⟩), .int .i64 0]) ∧ Own w0 w' g (newA room) :=
  (new_any room h1 h2 w).mono fun _e w' ⟨g, he, _, hF, hB⟩ => ⟨g, he, newB w w', hF, fun _k hk => ⟨Nat.le_trans h.size hk.1, hk.2⟩, h.trans (hB.mono h.size)⟩
theorem create1_own {s : ByteArray} {room : Int} (h : Own w0 w g (newA room)) (h1 : 1 ≤ room) (h2 : room ≤ 1048576) (hs : nameB s = true) :
    Calls Tryz.prog 43 #[.pointer (some ⟨g, 0, none⟩), .string s] w fun e w' => ∃ b A', e = .returned (.int .i64 0) ∧ Own w0 w' g A' ∧ One A' s b ⟨0, [], 0⟩ room 3 ∧ A'.sure = .map [] ∧ A'.since = [.create s b] := by
  obtain ⟨S, k1, k2, k3⟩ := h
  exact (create1_one g S s room w k1 h1 h2 hs).mono fun e w' ⟨b, A', he, hF, hO, e1, e2, hK⟩ => ⟨b, A', he, own_next k2 k3 hF hK, hO, e1, e2⟩
/-- 'Append' of bytes that were laid just before. -/
theorem append_own_new {s : ByteArray} {b : Nat} {f : Fil} {room : Int} {n : Nat} {k1 k2 : Nat} (p : List Int) (h : Own w0 w g A) (hO : One A s b f room n) (hn : n < 900) (hl : f.data.length + p.length ≤ 65536) (hr : (f.data.length : Int) + p.length ≤ room) :
    Calls Tryz.prog 44 #[.pointer (some ⟨g, 0, none⟩), .string s, .slice (some ⟨w.heap.size, 0, none⟩) p.length p.length] (w.alloc (.cells (p.map (Value.int .u8)).toArray 5 (k1, k2))) fun e w' => ∃ A', e = .returned (.int .i64 0) ∧ Own w0 w' g A' ∧ One A' s b { f with data := f.data ++ p } room (n + 1) ∧ A'.sure = A.sure ∧ A'.since = A.since := by
  obtain ⟨S, h1, h2, h3⟩ := h
  have hB : Below w.heap.size w (w.alloc (.cells (p.map (Value.int .u8)).toArray 5 (k1, k2))) := (Below.refl _ _).alloc (Nat.le_refl _) _
  have hbn : (w.alloc (.cells (p.map (Value.int .u8)).toArray 5 (k1, k2))).heap[w.heap.size]? = some (.cells (p.map (Value.int .u8)).toArray 5 (k1, k2)) := heap_alloc_new w _
  have hp : Bytes (w.alloc (.cells (p.map (Value.int .u8)).toArray 5 (k1, k2))) (.slice (some ⟨w.heap.size, 0, none⟩) p.length p.length) p := .inr (.inr ⟨w.heap.size, 0, p.length, rfl, Nat.le_refl _, (Array.getElem?_eq_some_iff.1 hbn).1, fun j v hv => by rw [Nat.zero_add, cell_of_row _ _ j _ _ _ hbn]; simpa using hv⟩)
  refine (append_one g S A s b f room n _ p _ (h1.below hB) hO hn hp (fun x hx hS => by cases hx; have h9 : w.heap.size < w.heap.size := (h2 _ hS).2; omega) hl hr).mono fun e w' ⟨A', he, hF, hO', e1, e2, hK⟩ => ⟨A', he, ?_, hO', e1, e2⟩
  exact own_next (fun k hk => ⟨(h2 k hk).1, Nat.lt_of_lt_of_le (h2 k hk).2 hB.size⟩) (h3.trans (hB.mono h3.size)) hF hK
theorem sync_own {s : ByteArray} {b : Nat} {f : Fil} {room : Int} {n : Nat} (h : Own w0 w g A) (hO : One A s b f room n) (hn : n < 900) :
    Calls Tryz.prog 53 #[.pointer (some ⟨g, 0, none⟩), .string s] w fun e w' => ∃ A', e = .returned (.int .i64 0) ∧ Own w0 w' g A' ∧ One A' s b { f with sure := f.data.length } room (n + 1) ∧ A'.sure = A.sure ∧ A'.since = A.since := by
  obtain ⟨S, k1, k2, k3⟩ := h
  exact (sync_one g S A s b f room n w k1 hO hn).mono fun e w' ⟨A', he, hF, hO', e1, e2, hK⟩ => ⟨A', he, own_same k2 k3 hF hK, hO', e1, e2⟩
theorem read_own {s : ByteArray} {b : Nat} {f : Fil} {room : Int} {n : Nat} (h : Own w0 w g A) (hO : One A s b f room n) :
    Calls Tryz.prog 47 #[.pointer (some ⟨g, 0, none⟩), .string s] w fun e w' => ∃ v, e = .returned (.tuple #[v, .int .i64 0]) ∧ Bytes w' v f.data ∧ Below w.heap.size w w' ∧ Own w0 w' g A := by
  obtain ⟨S, k1, k2, k3⟩ := h
  exact (read_one g S A s b f room n w k1 hO).mono fun e w' ⟨v, he, hc⟩ => ⟨v, he, OwnD.bytes hc.1, hc.2, Own.below ⟨S, k1, k2, k3⟩ hc.2⟩
theorem crash1_own {s : ByteArray} {b : Nat} {f : Fil} {room : Int} {n : Nat} {v : Value} {tails : List Int} (h : Own w0 w g A) (hO : One A s b f room n) (hn : n < 900) (hsu : A.sure = .map []) (hsi : A.since = [.create s b]) (hv : Ints w v tails) (htl : tails.length < 1000) :
    Calls Tryz.prog 42 #[.pointer (some ⟨g, 0, none⟩), .int .i64 1, v] w fun e w' => ∃ g' b' X, e = .returned (.pointer (some ⟨g', 0, none⟩)) ∧ Own w0 w' g' X ∧ One X s b' (crashedF f (tails.getD f.num.toNat 0) 0) room 1 ∧ Own w0 w' g A ∧ Below w.heap.size w w' := by
  obtain ⟨S, k1, k2, k3⟩ := h
  exact (crash_one g S A s b f room n v tails w k1 hO hn hsu hsi hv htl).mono fun e w' ⟨g', b', X, he, hF, hO', hB⟩ =>
    ⟨g', b', X, he, ⟨newB w w', hF, fun k hk => ⟨Nat.le_trans k3.size hk.1, hk.2⟩, k3.trans (hB.mono k3.size)⟩, hO', Own.below ⟨S, k1, k2, k3⟩ hB, hB⟩
theorem crash0_own {s : ByteArray} {b : Nat} {f : Fil} {room : Int} {n : Nat} (h : Own w0 w g A) (hO : One A s b f room n) (hn : n < 900) (hsu : A.sure = .map []) :
    Calls Tryz.prog 42 #[.pointer (some ⟨g, 0, none⟩), .int .i64 0, .slice none 0 0] w fun e w' => ∃ g', e = .returned (.pointer (some ⟨g', 0, none⟩)) ∧ Own w0 w' g' (newA room) ∧ Own w0 w' g A ∧ Below w.heap.size w w' := by
  obtain ⟨S, k1, k2, k3⟩ := h
  refine (crash_any g S A 0 (.slice none 0 0) [] w k1 (hO.inv.crashy (by omega)) (.inl ⟨rfl, rfl⟩) (by simp)).mono fun e w' ⟨g', bs, he, hbl, _, _, hF, hB⟩ => ⟨g', he, ?_, Own.below ⟨S, k1, k2, k3⟩ hB, hB⟩
  have hL : leftD A 0 = .map [] := by
    unfold leftD preD
    rw [show (withinOf 0 A.since.length).toNat = 0 by unfold withinOf; omega, List.take_zero, hsu]; rfl
  have hX : crashA A 0 [] bs = newA room := by
    unfold crashA
    rw [hL, none_names]
    simp only [List.zip_nil_left, crashX, List.foldl_nil]
    rw [hO.room]; rfl
  rw [hX] at hF
  exact ⟨newB w w', hF, fun k hk => ⟨Nat.le_trans k3.size hk.1, hk.2⟩, k3.trans (hB.mono k3.size)⟩
theorem list_own (h : Own w0 w g A) (hn : Maps.size A.now < 1000) :
    Calls Tryz.prog 45 #[.pointer (some ⟨g, 0, none⟩)] w fun e w' => ∃ v, e = .returned v ∧ w'.ownsRow w.heap.size 9 1 v (namesD A.now).length ((namesD A.now).map Go.Proofs.encStr) ∧ Below w.heap.size w w' ∧ Own w0 w' g A := by
  obtain ⟨S, k1, k2, k3⟩ := h
  exact (list_any g S A w k1 hn).mono fun e w' ⟨v, he, ho, hB⟩ => ⟨v, he, ho, hB, Own.below ⟨S, k1, k2, k3⟩ hB⟩
end
theorem len_own {A : FsA} {w0 w : World} {g : Nat} (h : Own w0 w g A) (hn : Maps.size A.now < 1000) (n : Nat) (hl : (namesD A.now).length = n) :
    Calls Tryz.prog 45 #[.pointer (some ⟨g, 0, none⟩)] w fun e w' => ∃ la lc, e = .returned (.slice la n lc) ∧ Below w.heap.size w w' ∧ Own w0 w' g A := by
  refine (list_own h hn).mono fun e w' ⟨v, he, ho, hB, hO⟩ => ?_
  rw [hl] at ho
  rcases ho.2 with ⟨rfl, h0⟩ | ⟨q, cap, cur, rfl, _⟩
  · exact ⟨none, 0, by rw [he, h0], hB, hO⟩
  · exact ⟨_, _, he, hB, hO⟩
/-- The text of bytes. -/
theorem run_string {w : World} {v : Value} {p : List Int} (h : Bytes w v p) : (convert 37 9 v).run Tryz.prog w = .ok (.string (strOfNums p)) w := by
  rcases h with ⟨rfl, rfl⟩ | ⟨a, rfl, rfl⟩ | ⟨pb, po, cap, rfl, _, _, h4⟩
  · exact run_convert_bytes_nil w 37 5 Tryz.underlying37 Tryz.underlying5 0 0 9 Tryz.underlying9
  · have hl : (loadCells a 0).run Tryz.prog w = .ok (([] : List Int).map (Value.int .u8)).toArray w := run_loadCells_list (P := Tryz.prog) w a [] (fun j v hj => by cases hj)
    rw [run_convert_bytes_string w 37 9 5 _ 0 0 Tryz.underlying37 Tryz.underlying5 Tryz.underlying9, run_bytesToString w _ 0 0 [] hl]
    rfl
  · refine run_convert_bytes_arg w 37 5 Tryz.underlying37 Tryz.underlying5 pb po p.length cap p rfl (fun i hi => h4 i _ ?_) 9 Tryz.underlying9
    rw [List.getElem?_map, List.getD_eq_getElem?_getD, List.getElem?_eq_getElem hi]; rfl

end Go.Proofs.YtigbgajelkknbaaGreatDoor
namespace Go.Proofs.YtigbgajelkknbaaGreatDoor
open Go.RowKit Go.Maps Go.WideMaps
set_option maxRecDepth 100000

/-- Some byte is no sign of a name, among the first n. -/
theorem odd_take (s : ByteArray) (n : Nat) (h : n < s.size) (ho : (s.data.toList.take n).any (fun b => oddB (b.toNat : Int)) = false) (hx : oddB (((s.get n h).toNat : Nat) : Int) = false) :
    (s.data.toList.take (n + 1)).any (fun b => oddB (b.toNat : Int)) = false := by
  have hn : n < s.data.toList.length := by simpa using h
  rw [List.take_succ_eq_append_getElem hn, List.any_append, ho]
  simp only [List.any_cons, List.any_nil, Bool.or_false, Bool.false_or]
  exact hx
theorem odd_at (s : ByteArray) (n : Nat) (h : n < s.size) (hx : oddB (((s.get n h).toNat : Nat) : Int) = true) : oddS s = true := by
  have hn : n < s.data.toList.length := by simpa using h
  unfold oddS
  rw [List.any_eq_true]
  exact ⟨s.data.toList[n], List.getElem_mem _, hx⟩
theorem str_get (s : ByteArray) (j : Nat) (hj : j < s.size) (w : World) : (Instr.index 9 (.string s) (.int .i64 j)).run Tryz.prog w = .ok (.int .u8 (((s.get j hj).toNat : Nat) : Int)) w := by
  rw [run_index_string w _ _ _ _ Tryz.underlying9, dif_pos ⟨by omega, by omega⟩]
  rfl

set_option maxHeartbeats 2000000 in
/-- The reference's 'Good'. -/
theorem good_any (s : ByteArray) (w : World) (hsz : s.size ≤ 9223372036854775807) :
    Calls Tryz.prog 109 #[.string s] w fun e w' => e = .returned (.bool (nameB s)) ∧ w = w' := by
  have HND : Hid (nameB s = (decide (1 ≤ s.size) && decide (s.size ≤ 20) && !oddS s)) := rfl
  have HT := Lib.hid (odd_take s)
  have HA := Lib.hid (odd_at s)
  have HALL : Hid ((s.data.toList.take s.size).any (fun b => oddB (b.toNat : Int)) = oddS s) := by
    show _ = _
    unfold oddS
    rw [List.take_of_length_le (by simp [← ByteArray.size_data])]
  have HG := Lib.hid (str_get s)
  go_enter Tryz.func109, Tryz.ntmps109
  by_cases h1 : s.size < 1
  · have hbad : nameB s = false := by rw [HND.out, show decide (1 ≤ s.size) = false by simpa using h1]; rfl
    have HE := Lib.hid hbad
    clear hbad
    go_wp2_with fail
    go_ret
    exact ⟨ret_bool HE.out.symm, rfl⟩
  by_cases h2 : 20 < s.size
  · have hbad : nameB s = false := by rw [HND.out, show decide (s.size ≤ 20) = false by simpa using h2]; simp
    have HE := Lib.hid hbad
    clear hbad
    go_wp2_with fail
    go_ret
    exact ⟨ret_bool HE.out.symm, rfl⟩
  go_wp2_with fail
  go_loopw [3, 4] (fun s2 _ wr => ∃ i : Nat, i ≤ s.size ∧ s2 = .int .i64 i ∧ (s.data.toList.take i).any (fun b => oddB (b.toNat : Int)) = false ∧ w = wr)
    (fun s2 _ _ => s.size - (intOf s2).toNat)
  case atStart => exact ⟨0, by omega, rfl, rfl, rfl⟩
  case round =>
    obtain ⟨i, hi, rfl, hall, rfl⟩ := hrel
    by_cases hlt : i < s.size
    · have li : (i : Int) < s.size := by omega
      have hg := HG.out i hlt w
      obtain ⟨c, hc⟩ : ∃ c : Nat, (s.get i hlt).toNat = c := ⟨_, rfl⟩
      have hc255 : c ≤ 255 := by rw [← hc]; have := (s.get i hlt).toNat_lt; omega
      have hN := HT.out i hlt hall
      have hB := HA.out i hlt
      rw [hc] at hg hN hB
      have HO : Hid (oddB (c : Int) = !((decide (97 ≤ (c : Int)) && decide ((c : Int) ≤ 122)) || (decide (48 ≤ (c : Int)) && decide ((c : Int) ≤ 57)) || decide ((c : Int) = 46) || decide ((c : Int) = 45))) := rfl
      have HN := Lib.hid hN
      have HB := Lib.hid hB
      clear hN hB hall hc
      cases ho : oddB (c : Int)
      · have HNX := Lib.hid (HN.out ho)
        have hsg : (97 ≤ (c : Int) ∧ (c : Int) ≤ 122) ∨ (48 ≤ (c : Int) ∧ (c : Int) ≤ 57) ∨ (c : Int) = 46 ∨ (c : Int) = 45 := by
          have := HO.out; rw [ho] at this
          revert this; simp only [Bool.false_eq, Bool.not_eq_false', Bool.or_eq_true, Bool.and_eq_true, decide_eq_true_eq]; omega
        clear ho
        have main : ∀ W : World, W = w → True := fun _ _ => trivial
        clear main
        rcases hsg with ⟨ha, hb⟩ | ⟨ha, hb⟩ | hb | hb
        · go_wp2_with fail
          go_roundw
          case rel => exact ⟨i + 1, by omega, by go_num, HNX.out, trivial⟩
          case measure => simp [intOf]; omega
        · have hx : ¬ (97 ≤ (c : Int)) := by omega
          go_wp2_with fail
          go_roundw
          case rel => exact ⟨i + 1, by omega, by go_num, HNX.out, trivial⟩
          case measure => simp [intOf]; omega
        · obtain rfl : c = 46 := by omega
          go_wp2_with fail
          go_roundw
          case rel => exact ⟨i + 1, by omega, by go_num, HNX.out, trivial⟩
          case measure => simp [intOf]; omega
        · obtain rfl : c = 45 := by omega
          go_wp2_with fail
          go_roundw
          case rel => exact ⟨i + 1, by omega, by go_num, HNX.out, trivial⟩
          case measure => simp [intOf]; omega
      · have hbad : nameB s = false := by rw [HND.out, HB.out ho]; simp
        have HE := Lib.hid hbad
        have hsg : ¬ ((97 ≤ (c : Int) ∧ (c : Int) ≤ 122) ∨ (48 ≤ (c : Int) ∧ (c : Int) ≤ 57) ∨ (c : Int) = 46 ∨ (c : Int) = 45) := by
          have := HO.out; rw [ho] at this
          revert this; simp only [Bool.true_eq, Bool.not_eq_true', Bool.or_eq_false_iff, Bool.and_eq_false_iff, decide_eq_false_iff_not]; omega
        clear hbad ho
        have n46 : ((c : Int) == 46) = false := by rw [beq_eq_false_iff_ne]; omega
        have n45 : ((c : Int) == 45) = false := by rw [beq_eq_false_iff_ne]; omega
        by_cases q1 : 97 ≤ (c : Int) <;> by_cases q2 : (c : Int) ≤ 122 <;> by_cases q3 : 48 ≤ (c : Int) <;> by_cases q4 : (c : Int) ≤ 57 <;> first | (exfalso; omega) | skip
        all_goals
          clear hsg
          go_wp2_with fail
          go_ret
          exact ⟨ret_bool HE.out.symm, rfl⟩
    · obtain rfl : i = s.size := by omega
      have hgood : nameB s = true := by rw [HND.out, ← HALL.out, hall]; simp; omega
      have HE := Lib.hid hgood
      clear hgood hall
      go_wp2_with fail
      go_ret
      exact ⟨ret_bool HE.out.symm, rfl⟩

section
variable {w0 w w' : World} {g : Nat} {A A' : FsA}
theorem rename_own_self {s : ByteArray} {b : Nat} {f : Fil} {room : Int} {n : Nat} (h : Own w0 w g A) (hO : One A s b f room n) (hn : n < 900) :
    Calls Tryz.prog 57 #[.pointer (some ⟨g, 0, none⟩), .string s, .string s] w fun e w' => ∃ A', e = .returned (.int .i64 0) ∧ Own w0 w' g A' ∧ One A' s b f room (n + 2) := by
  obtain ⟨S, h1, h2, h3⟩ := h
  have hsz := hO.bound
  refine (rename_any g S A s s w h1 (hO.inv.Num (by omega)) (hO.inv.few (by omega)) (by omega) (by omega)).mono fun e w' ⟨he, hF, hK⟩ => ?_
  rw [rename_calm hO.calm hO.name hO.name hO.get] at he hF
  refine ⟨_, he, own_next h2 h3 hF hK, ⟨hO.inv.count.change ⟨hsz, b, hO.get⟩, ⟨hO.calm.a, hO.calm.p⟩, hO.name, ?_, hO.file, hO.room⟩⟩
  show ((A.now.del (keyL s)).put (keyL s) (datOf (dget A.now s))) = _
  rw [hO.get, hO.now, one_del]; rfl
theorem remove_own {s : ByteArray} {b : Nat} {f : Fil} {room : Int} {n : Nat} (h : Own w0 w g A) (hO : One A s b f room n) (hn : n < 900) :
    Calls Tryz.prog 48 #[.pointer (some ⟨g, 0, none⟩), .string s] w fun e w' => ∃ A', e = .returned (.int .i64 0) ∧ Own w0 w' g A' ∧ A'.now = .map [] := by
  obtain ⟨S, h1, h2, h3⟩ := h
  have hsz := hO.bound
  refine (remove_any g S A s w h1 (hO.inv.Num (by omega)) (hO.inv.few (by omega)) (by omega)).mono fun e w' ⟨he, hF, hK⟩ => ?_
  rw [remove_calm hO.calm hO.name hO.get] at he hF
  refine ⟨_, he, own_next h2 h3 hF hK, ?_⟩
  show A.now.del (keyL s) = _
  rw [hO.now, one_del]
theorem create_bad {s : ByteArray} {room : Int} (h : Own w0 w g (newA room)) (h1 : 1 ≤ room) (h2 : room ≤ 1048576) (hs : nameB s = false) (hsz : s.size ≤ 9223372036854775807) :
    Calls Tryz.prog 43 #[.pointer (some ⟨g, 0, none⟩), .string s] w fun e w' => e = .returned (.int .i64 7) ∧ Own w0 w' g (newA room) := by
  obtain ⟨S, k1, k2, k3⟩ := h
  refine (create_any g S (newA room) s w k1 ((Inv.new room h1 h2).Num (by omega)) hsz ⟨by show (0 : Int) ≤ 0; omega, by show (0 : Int) < _; omega⟩ (by show 0 < 1000; omega) (by show 0 < 1000; omega)).mono fun e w' ⟨b, _, he, hF, hK⟩ => ?_
  rw [show createA (newA room) s b = (newA room, 7) by unfold createA; rw [hs]; rfl] at he hF
  exact ⟨he, own_next k2 k3 hF hK⟩
theorem append_bad {s : ByteArray} {room : Int} {k1 k2 : Nat} (p : List Int) (h : Own w0 w g (newA room)) (h1 : 1 ≤ room) (h2 : room ≤ 1048576) (hs : nameB s = false) (hsz : s.size ≤ 9223372036854775807) (hp : p.length ≤ 1000) :
    Calls Tryz.prog 44 #[.pointer (some ⟨g, 0, none⟩), .string s, .slice (some ⟨w.heap.size, 0, none⟩) p.length p.length] (w.alloc (.cells (p.map (Value.int .u8)).toArray 5 (k1, k2))) fun e w' => e = .returned (.int .i64 7) ∧ Own w0 w' g (newA room) := by
  obtain ⟨S, m1, m2, m3⟩ := h
  have hI := Inv.new room h1 h2
  have hB : Below w.heap.size w (w.alloc (.cells (p.map (Value.int .u8)).toArray 5 (k1, k2))) := (Below.refl _ _).alloc (Nat.le_refl _) _
  have hbn : (w.alloc (.cells (p.map (Value.int .u8)).toArray 5 (k1, k2))).heap[w.heap.size]? = some (.cells (p.map (Value.int .u8)).toArray 5 (k1, k2)) := heap_alloc_new w _
  have hb : Bytes (w.alloc (.cells (p.map (Value.int .u8)).toArray 5 (k1, k2))) (.slice (some ⟨w.heap.size, 0, none⟩) p.length p.length) p := .inr (.inr ⟨w.heap.size, 0, p.length, rfl, Nat.le_refl _, (Array.getElem?_eq_some_iff.1 hbn).1, fun j v hv => by rw [Nat.zero_add, cell_of_row _ _ j _ _ _ hbn]; simpa using hv⟩)
  refine (append_any g S (newA room) s _ p _ (m1.below hB) (hI.Num (by omega)) hI.po hI.okNow hI.short (by show 0 < 1000; omega) hI.room hsz hb (by omega) (fun x hx hS => by have hx := hx.1; cases hx; have h9 : w.heap.size < w.heap.size := (m2 _ hS).2; omega)).mono fun e w' ⟨he, hF, hK⟩ => ?_
  rw [show appendA (newA room) s p = (newA room, 7) by unfold appendA; rw [findA_bad hs]] at he hF
  exact ⟨he, own_next (fun k hk => ⟨(m2 k hk).1, Nat.lt_of_lt_of_le (m2 k hk).2 hB.size⟩) (m3.trans (hB.mono m3.size)) hF hK⟩
theorem read_bad {s : ByteArray} {room : Int} (h : Own w0 w g (newA room)) (h1 : 1 ≤ room) (h2 : room ≤ 1048576) (hs : nameB s = false) (hsz : s.size ≤ 9223372036854775807) :
    Calls Tryz.prog 47 #[.pointer (some ⟨g, 0, none⟩), .string s] w fun e w' => ∃ v, e = .returned (.tuple #[v, .int .i64 7]) ∧ Own w0 w' g (newA room) := by
  obtain ⟨S, k1, k2, k3⟩ := h
  have hI := Inv.new room h1 h2
  refine (read_any g S (newA room) s w k1 hI.named hI.short hsz).mono fun e w' ⟨v, he, hc⟩ => ?_
  rw [show readA (newA room) s = ([], 7) by unfold readA; rw [findA_bad hs]; rfl] at he
  exact ⟨v, he, Own.below ⟨S, k1, k2, k3⟩ hc.2⟩
theorem rename_bad {s : ByteArray} {room : Int} (h : Own w0 w g (newA room)) (h1 : 1 ≤ room) (h2 : room ≤ 1048576) (hs : nameB s = false) (hsz : s.size ≤ 9223372036854775807) :
    Calls Tryz.prog 57 #[.pointer (some ⟨g, 0, none⟩), .string s, .string s] w fun e w' => e = .returned (.int .i64 7) ∧ Own w0 w' g (newA room) := by
  obtain ⟨S, k1, k2, k3⟩ := h
  have hI := Inv.new room h1 h2
  refine (rename_any g S (newA room) s s w k1 (hI.Num (by omega)) (hI.few (by omega)) hsz hsz).mono fun e w' ⟨he, hF, hK⟩ => ?_
  rw [show renameA (newA room) s s = (newA room, 7) by unfold renameA; rw [if_neg (by rw [hs]; simp)]] at he hF
  exact ⟨he, own_next k2 k3 hF hK⟩
theorem remove_bad {s : ByteArray} {room : Int} (h : Own w0 w g (newA room)) (h1 : 1 ≤ room) (h2 : room ≤ 1048576) (hs : nameB s = false) (hsz : s.size ≤ 9223372036854775807) :
    Calls Tryz.prog 48 #[.pointer (some ⟨g, 0, none⟩), .string s] w fun e w' => e = .returned (.int .i64 7) ∧ Own w0 w' g (newA room) := by
  obtain ⟨S, k1, k2, k3⟩ := h
  have hI := Inv.new room h1 h2
  refine (remove_any g S (newA room) s w k1 (hI.Num (by omega)) (hI.few (by omega)) hsz).mono fun e w' ⟨he, hF, hK⟩ => ?_
  rw [show removeA (newA room) s = (newA room, 7) by unfold removeA; rw [findA_bad hs]; rfl] at he hF
  exact ⟨he, own_next k2 k3 hF hK⟩
theorem steps_own (h : Own w0 w g A) : Calls Tryz.prog 67 #[.pointer (some ⟨g, 0, none⟩)] w fun e w' => e = .returned (.int .i64 A.count) ∧ w = w' := by
  obtain ⟨S, k1, _, _⟩ := h
  exact steps_any g S A w k1
end
end Go.Proofs.YtigbgajelkknbaaGreatDoor
