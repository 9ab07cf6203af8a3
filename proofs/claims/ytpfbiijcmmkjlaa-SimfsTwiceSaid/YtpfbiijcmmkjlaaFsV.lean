/- Package simfs: calls that go well, and what they make. -/
import Derived.Test.YtpfbiijcmmkjlaaFsU
namespace Go.Proofs.Ytpfbiijcmmkjlaa
open Go.RowKit Go.Maps Go.WideMaps

/-- Not armed, nothing planned. -/
structure Calm (A : FsA) : Prop where
  a : A.armed = false
  p : A.plan = []
theorem stepA_calm {A : FsA} (h : Calm A) : stepA A = ({ A with count := A.count + 1 }, 0, 0) := by
  obtain ⟨c, ar, l, p, ro, cr, no, su, si, fi⟩ := A
  obtain ⟨h1, h2⟩ := h
  simp only at h1 h2
  subst h1 h2
  rfl
theorem create_calm {A : FsA} (h : Calm A) {s : ByteArray} (hs : nameB s = true) (hd : dget A.now s = none) (hz : Maps.size A.now < 64) (b : Nat) :
    createA A s b = ({ changeA (setF { A with count := A.count + 1 } b ⟨A.created, [], 0⟩) (.create s b) with created := A.created + 1 }, 0) := by
  unfold createA
  rw [if_pos hs, hd, if_neg (by simp), if_neg (by omega), stepA_calm h]
  rfl
theorem findA_some {A : FsA} {s : ByteArray} {b : Nat} (hs : nameB s = true) (hd : dget A.now s = some b) : findA A s = (some b, 0) := by
  unfold findA; rw [if_pos hs, hd]; rfl
theorem findA_none {A : FsA} {s : ByteArray} (hs : nameB s = true) (hd : dget A.now s = none) : findA A s = (none, 3) := by
  unfold findA; rw [if_pos hs, hd]; rfl
theorem findA_bad {A : FsA} {s : ByteArray} (hs : nameB s = false) : findA A s = (none, 7) := by
  unfold findA; rw [hs]; rfl
theorem append_calm {A : FsA} (h : Calm A) {s : ByteArray} {b : Nat} {f : Fil} {p : List Int} (hs : nameB s = true) (hd : dget A.now s = some b) (hf : A.file b = some f) (hl : f.data.length + p.length ≤ 65536) (hr : (usedA A : Int) + p.length ≤ A.room) :
    appendA A s p = (setF { A with count := A.count + 1 } b { f with data := f.data ++ p }, 0) := by
  unfold appendA
  rw [findA_some hs hd]
  simp only [hf]
  unfold putA
  rw [if_neg (by omega), stepA_calm h, if_pos rfl, if_neg (by omega)]
  rfl
theorem sync_calm {A : FsA} (h : Calm A) {s : ByteArray} {b : Nat} {f : Fil} (hs : nameB s = true) (hd : dget A.now s = some b) (hf : A.file b = some f) :
    syncA A s = (setF { A with count := A.count + 1 } b { f with sure := f.data.length }, 0) := by
  unfold syncA
  rw [findA_some hs hd, if_pos rfl]
  unfold doneA
  rw [stepA_calm h, if_pos rfl]
  unfold setF
  simp only
  congr 2
  funext k
  by_cases hk : k = b
  · subst hk; simp [hf]
  · rw [if_neg (fun e => hk (Option.some.inj e)), if_neg hk]
theorem dir_calm {A : FsA} (h : Calm A) : dirA A = ({ A with count := A.count + 1, sure := A.now, since := [] }, 0) := by
  unfold dirA doneA; rw [stepA_calm h, if_pos rfl]
theorem rename_calm {A : FsA} (h : Calm A) {a b : ByteArray} {x : Nat} (ha : nameB a = true) (hb : nameB b = true) (hd : dget A.now a = some x) :
    renameA A a b = (changeA { A with count := A.count + 1 } (.rename a b), 0) := by
  unfold renameA
  rw [if_pos ⟨ha, hb⟩, if_neg (by rw [hd]; simp)]
  unfold doneA
  rw [stepA_calm h, if_pos rfl]
theorem remove_calm {A : FsA} (h : Calm A) {a : ByteArray} {x : Nat} (ha : nameB a = true) (hd : dget A.now a = some x) :
    removeA A a = (changeA { A with count := A.count + 1 } (.remove a), 0) := by
  unfold removeA
  rw [findA_some ha hd, if_pos rfl]
  unfold doneA
  rw [stepA_calm h, if_pos rfl]
theorem Inv.count {A : FsA} {n : Nat} (h : Inv A n) : Inv { A with count := A.count + 1 } (n + 1) := by
  have hm := h.mono (show n ≤ n + 1 by omega)
  exact ⟨⟨by show 0 ≤ A.count + 1; have := h.c; omega, by show A.count + 1 ≤ ((n + 1 : Nat) : Int); have := h.c; omega⟩, hm.l, hm.p, hm.po, hm.room, hm.cr, hm.since, hm.now, hm.size, hm.tidy, hm.ok, hm.short, hm.num⟩
theorem Inv.created {A : FsA} {n : Nat} (h : Inv A n) : Inv { A with created := A.created + 1 } (n + 1) := by
  have hm := h.mono (show n ≤ n + 1 by omega)
  exact ⟨hm.c, hm.l, hm.p, hm.po, hm.room, ⟨by show 0 ≤ A.created + 1; have := h.cr; omega, by show A.created + 1 ≤ ((n + 1 : Nat) : Int); have := h.cr; omega⟩, hm.since, hm.now, hm.size, hm.tidy, hm.ok, hm.short, hm.num⟩
theorem Inv.createCalm {A : FsA} {n : Nat} (h : Inv A n) {s : ByteArray} (hs : s.size ≤ 20) (b : Nat) :
    Inv { changeA (Go.Proofs.Ytpfbiijcmmkjlaa.setF { A with count := A.count + 1 } b ⟨A.created, [], 0⟩) (.create s b) with created := A.created + 1 } (n + 3) := by
  have h1 := h.count
  have h2 := h1.setF (b := b) (f := ⟨A.created, [], 0⟩) (by simp) (Nat.zero_le _) ⟨h.cr.1, by show A.created ≤ ((n + 1 : Nat) : Int); have := h.cr; omega⟩
  have h3 := h2.change (c := .create s b) ⟨hs, ⟨A.created, [], 0⟩, by show (if b = b then _ else _) = _; rw [if_pos rfl]⟩
  exact h3.created

/-- A text's name "a". -/
def nA : ByteArray := ⟨#[97]⟩
theorem nameA : nameB nA = true := by decide +kernel
theorem same_self (s : ByteArray) : (keyL s).sameKey (keyL s) = true := by unfold keyL; simp [Lit.sameKey]
/-- One name alone. -/
def oneD (s : ByteArray) (b : Nat) : DataW Unit := .map [(keyL s, .lit (.int .i64 (b : Nat)))]
theorem one_put (s : ByteArray) (b : Nat) : (DataW.map []).put (keyL s) (.lit (.int .i64 (b : Nat))) = oneD s b := rfl
theorem one_del (s : ByteArray) (b : Nat) : (oneD s b).del (keyL s) = .map [] := by
  unfold oneD DataW.del; simp [same_self]
theorem one_get (s : ByteArray) (b : Nat) : dget (oneD s b) s = some b := by
  unfold oneD dget DataW.atKey; simp [same_self]
theorem one_names (s : ByteArray) (b : Nat) : namesD (oneD s b) = [s.data.toList] := by
  unfold namesD oneD strKeys; simp [keyL, strOf]
theorem none_names : namesD (.map [] : DataW Unit) = [] := by unfold namesD strKeys; simp
/-- A file system with one file. -/
structure One (A : FsA) (s : ByteArray) (b : Nat) (f : Fil) (room : Int) (n : Nat) : Prop where
  inv : Inv A n
  calm : Calm A
  name : nameB s = true
  now : A.now = oneD s b
  file : A.file b = some f
  room : A.room = room
theorem One.get {A : FsA} {s : ByteArray} {b : Nat} {f : Fil} {room : Int} {n : Nat} (h : One A s b f room n) : dget A.now s = some b := by rw [h.now]; exact one_get s b
theorem One.size {A : FsA} {s : ByteArray} {b : Nat} {f : Fil} {room : Int} {n : Nat} (h : One A s b f room n) : Maps.size A.now = 1 := by rw [h.now]; rfl
theorem One.used {A : FsA} {s : ByteArray} {b : Nat} {f : Fil} {room : Int} {n : Nat} (h : One A s b f room n) : usedA A = f.data.length := by
  unfold usedA; rw [h.now]; unfold oneD usedD tot wt; simp [h.file]
theorem One.bound {A : FsA} {s : ByteArray} {b : Nat} {f : Fil} {room : Int} {n : Nat} (h : One A s b f room n) : s.size ≤ 20 := (nameB_size h.name).2
theorem One.set {A : FsA} {s : ByteArray} {b : Nat} {f f' : Fil} {room : Int} {n : Nat} (h : One A s b f room n) (hl : f'.data.length ≤ 65536) (hs : f'.sure ≤ f'.data.length) (hn : f'.num = f.num) : One (setF { A with count := A.count + 1 } b f') s b f' room (n + 1) :=
  ⟨h.inv.count.setF hl hs (by rw [hn]; have := h.inv.num b f h.file; exact ⟨this.1, by have := this.2; omega⟩), ⟨h.calm.a, h.calm.p⟩, h.name, h.now, by show (if b = b then _ else _) = _; rw [if_pos rfl], h.room⟩

theorem create1_one (g : Nat) (S : Nat → Prop) (s : ByteArray) (room : Int) (w : World) (hF : Fs w g S (newA room)) (h1 : 1 ≤ room) (h2 : room ≤ 1048576) (hs : nameB s = true) :
    Calls Try.prog 15 #[.pointer (some ⟨g, 0, none⟩), .string s] w fun e w' => ∃ b A', e = .returned (.int .i64 0) ∧ Fs w' g (grow S w w') A' ∧ One A' s b ⟨0, [], 0⟩ room 3 ∧ A'.sure = .map [] ∧ A'.since = [.create s b] ∧ Keep S w w' := by
  have hI := Inv.new room h1 h2
  have hsz := (nameB_size hs).2
  refine (create_any g S (newA room) s w hF (hI.Num (by omega)) (by omega) ⟨by show (0 : Int) ≤ 0; omega, by show (0 : Int) < _; omega⟩ (by show 0 < 1000; omega) (by show 0 < 1000; omega)).mono ?_
  rintro e w' ⟨b, _, he, hF', hK⟩
  rw [create_calm ⟨rfl, rfl⟩ hs rfl (by show 0 < 64; omega) b] at he hF'
  exact ⟨b, _, he, hF', ⟨hI.createCalm hsz b, ⟨rfl, rfl⟩, hs, rfl, by show (if b = b then _ else _) = _; rw [if_pos rfl]; rfl, rfl⟩, rfl, rfl, hK⟩
theorem append_one (g : Nat) (S : Nat → Prop) (A : FsA) (s : ByteArray) (b : Nat) (f : Fil) (room : Int) (n : Nat) (v : Value) (p : List Int) (w : World) (hF : Fs w g S A) (hO : One A s b f room n) (hn : n < 900) (hp : Bytes w v p) (hvS : ∀ x, v.ownBlock = some x → ¬ S x)
    (hl : f.data.length + p.length ≤ 65536) (hr : (f.data.length : Int) + p.length ≤ room) :
    Calls Try.prog 16 #[.pointer (some ⟨g, 0, none⟩), .string s, v] w fun e w' => ∃ A', e = .returned (.int .i64 0) ∧ Fs w' g (grow S w w') A' ∧ One A' s b { f with data := f.data ++ p } room (n + 1) ∧ A'.sure = A.sure ∧ A'.since = A.since ∧ Keep S w w' := by
  have hsz := hO.bound
  refine (append_any g S A s v p w hF (hO.inv.Num (by omega)) hO.inv.po hO.inv.okNow hO.inv.short (by rw [hO.size]; omega) hO.inv.room (by omega) hp (by omega) fun x hx => hvS x hx.1).mono ?_
  rintro e w' ⟨he, hF', hK⟩
  rw [append_calm hO.calm hO.name hO.get hO.file hl (by rw [hO.used, hO.room]; exact hr)] at he hF'
  exact ⟨_, he, hF', hO.set (by simp; omega) (by have := (hO.inv.short b f hO.file).2; simp; omega) rfl, rfl, rfl, hK⟩
theorem sync_one (g : Nat) (S : Nat → Prop) (A : FsA) (s : ByteArray) (b : Nat) (f : Fil) (room : Int) (n : Nat) (w : World) (hF : Fs w g S A) (hO : One A s b f room n) (hn : n < 900) :
    Calls Try.prog 17 #[.pointer (some ⟨g, 0, none⟩), .string s] w fun e w' => ∃ A', e = .returned (.int .i64 0) ∧ Fs w' g S A' ∧ One A' s b { f with sure := f.data.length } room (n + 1) ∧ A'.sure = A.sure ∧ A'.since = A.since ∧ Keep S w w' := by
  have hsz := hO.bound
  refine (sync_any g S A s w hF (hO.inv.Num (by omega)) hO.inv.named (by omega)).mono ?_
  rintro e w' ⟨he, hF', hK⟩
  rw [sync_calm hO.calm hO.name hO.get hO.file] at he hF'
  exact ⟨_, he, hF', hO.set (hO.inv.short b f hO.file).1 (Nat.le_refl _) rfl, rfl, rfl, hK⟩
/-- What is read of the one file. -/
theorem read_one (g : Nat) (S : Nat → Prop) (A : FsA) (s : ByteArray) (b : Nat) (f : Fil) (room : Int) (n : Nat) (w : World) (hF : Fs w g S A) (hO : One A s b f room n) :
    Calls Try.prog 14 #[.pointer (some ⟨g, 0, none⟩), .string s] w fun e w' => ∃ v, e = .returned (.tuple #[v, .int .i64 0]) ∧ Copied w w' v f.data := by
  have hsz := hO.bound
  have hr : readA A s = (f.data, 0) := by unfold readA; rw [findA_some hO.name hO.get]; simp [hO.file]
  have := read_any g S A s w hF hO.inv.named hO.inv.short (by omega)
  rw [hr] at this
  exact this
/-- A crash of it. -/
theorem crash_one (g : Nat) (S : Nat → Prop) (A : FsA) (s : ByteArray) (b : Nat) (f : Fil) (room : Int) (n : Nat) (v : Value) (tails : List Int) (w : World) (hF : Fs w g S A) (hO : One A s b f room n) (hn : n < 900) (hsu : A.sure = .map []) (hsi : A.since = [.create s b])
    (hv : Ints w v tails) (htl : tails.length < 1000) :
    Calls Try.prog 11 #[.pointer (some ⟨g, 0, none⟩), .int .i64 1, v] w fun e w' => ∃ g' b' X, e = .returned (.pointer (some ⟨g', 0, none⟩)) ∧ Fs w' g' (newB w w') X ∧ One X s b' (crashedF f (tails.getD f.num.toNat 0) 0) room 1 ∧ Below w.heap.size w w' := by
  refine (crash_any g S A 1 v tails w hF (hO.inv.crashy (by omega)) hv (by omega)).mono ?_
  rintro e w' ⟨g', bs, he, hbl, _, _, hF', hB⟩
  have hL : leftD A 1 = oneD s b := by
    unfold leftD preD; rw [hsi, hsu]; rfl
  rw [hL, one_names] at hbl
  obtain ⟨b', rfl⟩ : ∃ b', bs = [b'] := List.length_eq_one_iff.1 hbl
  have hfo : fileOf A (oneD s b) s.data.toList = f := by
    unfold fileOf
    rw [show (⟨s.data.toList.toArray⟩ : ByteArray) = s by apply ByteArray.ext; simp, one_get]
    simp [hO.file]
  have hcl : (crashedF f (tails.getD f.num.toNat 0) 0).data.length ≤ 65536 ∧ (crashedF f (tails.getD f.num.toNat 0) 0).sure ≤ (crashedF f (tails.getD f.num.toNat 0) 0).data.length := by
    have h1 := hO.inv.short b f hO.file
    have h2 := leftN_le f (tails.getD f.num.toNat 0) h1.2
    unfold crashedF
    simp only [List.length_take]; omega
  have hX : crashA A 1 tails [b'] = { newA room with file := (fun k => if k = b' then some (crashedF f (tails.getD f.num.toNat 0) 0) else none), now := oneD s b', sure := oneD s b', created := 1 } := by
    unfold crashA
    rw [hL, one_names]
    simp only [List.zip_cons_cons, List.zip_nil_right, crashX, List.foldl_cons, List.foldl_nil]
    unfold crashStep
    rw [hfo, hO.room]
    rfl
  rw [hX] at hF'
  refine ⟨g', b', _, he, hF', ⟨?_, ⟨rfl, rfl⟩, hO.name, rfl, by show (if b' = b' then _ else _) = _; rw [if_pos rfl], rfl⟩, hB⟩
  have hr := hO.inv.room
  rw [hO.room] at hr
  have hnew := (Inv.new room hr.1 hr.2).mono (show 0 ≤ 1 by omega)
  have hp : ∀ i, preD ({ newA room with file := (fun k => if k = b' then some (crashedF f (tails.getD f.num.toNat 0) 0) else none), now := oneD s b', sure := oneD s b', created := 1 } : FsA) i = oneD s b' := fun i => by unfold preD newA; simp
  have hok : OkD (fun k => if k = b' then some (crashedF f (tails.getD f.num.toNat 0) 0) else none) (oneD s b') := ⟨_, rfl, fun p hpm => by
    obtain rfl := List.mem_singleton.1 hpm
    exact ⟨s, b', _, rfl, hO.bound, rfl, if_pos rfl⟩⟩
  have hsh : Short ({ newA room with file := (fun k => if k = b' then some (crashedF f (tails.getD f.num.toNat 0) 0) else none), now := oneD s b', sure := oneD s b', created := 1 } : FsA) := fun k f' hk => by
    have hk' : (if k = b' then some (crashedF f (tails.getD f.num.toNat 0) 0) else none) = some f' := hk
    by_cases e : k = b'
    · rw [if_pos e] at hk'; cases hk'; exact hcl
    · rw [if_neg e] at hk'; cases hk'
  have hnu : ∀ k f', ({ newA room with file := (fun k => if k = b' then some (crashedF f (tails.getD f.num.toNat 0) 0) else none), now := oneD s b', sure := oneD s b', created := 1 } : FsA).file k = some f' → 0 ≤ f'.num ∧ f'.num ≤ ((1 : Nat) : Int) := fun k f' hk => by
    have hk' : (if k = b' then some (crashedF f (tails.getD f.num.toNat 0) 0) else none) = some f' := hk
    by_cases e : k = b'
    · rw [if_pos e] at hk'; cases hk'; exact ⟨by show (0 : Int) ≤ 0; omega, by show (0 : Int) ≤ ((1 : Nat) : Int); omega⟩
    · rw [if_neg e] at hk'; cases hk'
  exact ⟨hnew.c, hnew.l, hnew.p, hnew.po, hnew.room, ⟨by show (0 : Int) ≤ 1; omega, by show (1 : Int) ≤ ((1 : Nat) : Int); omega⟩, Nat.zero_le _, (hp _).symm, (fun i => by rw [hp]; exact Nat.le_refl 1), (fun i => by rw [hp]; exact ⟨_, rfl, List.pairwise_singleton _ _⟩), (fun i => by rw [hp]; exact hok), hsh, hnu⟩
end Go.Proofs.Ytpfbiijcmmkjlaa
