/- Package simfs: what a crash leaves, by name. Plain; nothing is walked. -/
import Derived.Test.YtpfbiijcmmkjlaaFsY
namespace Go.Proofs.Ytpfbiijcmmkjlaa
open Go.RowKit Go.Maps Go.WideMaps

theorem key_bytes (s : List UInt8) : keyL ⟨s.toArray⟩ = Lit.string s := by unfold keyL; simp
theorem bytes_back (s : ByteArray) : (⟨s.data.toList.toArray⟩ : ByteArray) = s := by apply ByteArray.ext; simp
theorem arr_inj {a b : List UInt8} (h : (⟨a.toArray⟩ : ByteArray) = ⟨b.toArray⟩) : a = b := by
  have h1 := congrArg (fun x : ByteArray => x.data.toList) h
  simpa using h1
/-- A name that is looked up stands among the names. -/
theorem mem_names {D : DataW Unit} {s : List UInt8} {b : Nat} (hD : Maps.IsMap D) (h : dget D ⟨s.toArray⟩ = some b) : s ∈ namesD D := by
  obtain ⟨es, rfl⟩ := hD
  unfold namesD
  rw [List.mem_mergeSort]
  unfold dget DataW.atKey at h
  cases hf : es.find? (fun p => p.1.sameKey (keyL ⟨s.toArray⟩)) with
  | none => simp [hf] at h
  | some p =>
    have hs := List.find?_some hf
    have hm := List.mem_of_find?_eq_some hf
    rw [key_bytes] at hs
    show s ∈ es.map fun p => strOf p.1
    refine List.mem_map.2 ⟨p, hm, ?_⟩
    cases hp : p.1 with
    | string t => rw [hp] at hs; simp [Lit.sameKey] at hs; simp [strOf, hs]
    | _ => rw [hp] at hs; simp [Lit.sameKey] at hs
/-- The names of a directory are apart. -/
theorem names_nodup {fl : Nat → Option Fil} {D : DataW Unit} (hT : Maps.Tidy D) (hO : OkD fl D) : (namesD D).Nodup := by
  obtain ⟨es, rfl, hpw⟩ := hT
  obtain ⟨es', he, hp⟩ := hO
  cases he
  unfold namesD
  refine (List.mergeSort_perm _ _).nodup_iff.2 ?_
  show (es.map fun p => strOf p.1).Nodup
  unfold List.Nodup
  rw [List.pairwise_map]
  refine List.Pairwise.imp_of_mem (fun {p q} hpm hqm hne => ?_) hpw
  obtain ⟨s, _, _, h1, _⟩ := hp p hpm
  obtain ⟨t, _, _, h2, _⟩ := hp q hqm
  rw [h1, h2] at hne ⊢
  intro e
  apply hne
  unfold keyL at e ⊢
  exact congrArg Lit.string e

section
variable {A : FsA} {L : DataW Unit} {tails : List Int}
theorem crashStep_now (X : FsA) (p : List UInt8 × Nat) : (crashStep A L tails X p).now = X.now.put (keyL ⟨p.1.toArray⟩) (.lit (.int .i64 p.2)) := by rw [key_bytes]; rfl
theorem fold_isMap : ∀ (l : List (List UInt8 × Nat)) (X : FsA), Maps.IsMap X.now → Maps.IsMap (l.foldl (crashStep A L tails) X).now
  | [], _, h => h
  | p :: l, X, h => fold_isMap l _ (by rw [crashStep_now]; exact h.put _ _)
theorem fold_get_other {s : List UInt8} : ∀ (l : List (List UInt8 × Nat)) (X : FsA), s ∉ l.map Prod.fst → dget (l.foldl (crashStep A L tails) X).now ⟨s.toArray⟩ = dget X.now ⟨s.toArray⟩
  | [], _, _ => rfl
  | p :: l, X, h => by
    rw [List.foldl_cons, fold_get_other l _ (fun e => h (List.mem_cons_of_mem _ e)), crashStep_now, dget_put_other]
    intro e
    exact h (by rw [arr_inj e]; exact List.mem_cons_self)
theorem fold_file_other {b : Nat} : ∀ (l : List (List UInt8 × Nat)) (X : FsA), b ∉ l.map Prod.snd → (l.foldl (crashStep A L tails) X).file b = X.file b
  | [], _, _ => rfl
  | p :: l, X, h => by
    rw [List.foldl_cons, fold_file_other l _ (fun e => h (List.mem_cons_of_mem _ e))]
    exact if_neg (fun e => h (by rw [e]; exact List.mem_cons_self))
theorem fold_get {s : List UInt8} {b : Nat} : ∀ (l : List (List UInt8 × Nat)) (X : FsA), Maps.IsMap X.now → (l.map Prod.fst).Nodup → (l.map Prod.snd).Nodup → (s, b) ∈ l →
    dget (l.foldl (crashStep A L tails) X).now ⟨s.toArray⟩ = some b ∧ ∃ num, (l.foldl (crashStep A L tails) X).file b = some (crashedF (fileOf A L s) (tails.getD (fileOf A L s).num.toNat 0) num)
  | [], _, _, _, _, h => by cases h
  | p :: l, X, hm, h1, h2, h => by
    rw [List.map_cons, List.nodup_cons] at h1 h2
    rw [List.foldl_cons]
    rcases List.mem_cons.1 h with rfl | h
    · refine ⟨?_, X.created, ?_⟩
      · rw [fold_get_other l _ h1.1, crashStep_now]; exact dget_put_same hm _ _
      · rw [fold_file_other l _ h2.1]; exact if_pos rfl
    · exact fold_get l _ (by rw [crashStep_now]; exact hm.put _ _) h1.2 h2.2 h
end
/-- A name that is left of a crash, and its file. -/
theorem crash_get {A : FsA} {n : Nat} {dirs : Int} {tails : List Int} {bs : List Nat} {s : ByteArray} {b0 : Nat} {f : Fil} (hI : Inv A n) (hl : bs.length = (namesD (leftD A dirs)).length) (hnd : bs.Nodup) (hg : dget (leftD A dirs) s = some b0) (hf : A.file b0 = some f) :
    ∃ b num, dget (crashA A dirs tails bs).now s = some b ∧ (crashA A dirs tails bs).file b = some (crashedF f (tails.getD f.num.toNat 0) num) := by
  have hT : Maps.Tidy (leftD A dirs) := hI.tidy _
  have hO : OkD A.file (leftD A dirs) := hI.ok _
  rw [← bytes_back s] at hg ⊢
  have hm := mem_names hT.isMap hg
  have hfo : fileOf A (leftD A dirs) s.data.toList = f := by unfold fileOf; rw [hg]; simp [hf]
  obtain ⟨i, hi, hie⟩ := List.getElem_of_mem hm
  have hib : i < bs.length := by omega
  have hz : (s.data.toList, bs[i]) ∈ (namesD (leftD A dirs)).zip bs := by
    rw [List.mem_iff_getElem]
    exact ⟨i, by simp; omega, by rw [List.getElem_zip, hie]⟩
  have h1 : (((namesD (leftD A dirs)).zip bs).map Prod.fst).Nodup := by
    rw [List.map_fst_zip (by omega)]; exact names_nodup hT hO
  have h2 : (((namesD (leftD A dirs)).zip bs).map Prod.snd).Nodup := by
    rw [List.map_snd_zip (by omega)]; exact hnd
  obtain ⟨g1, num, g2⟩ := fold_get (A := A) (L := leftD A dirs) (tails := tails) _ (newA A.room) Maps.isMap_empty h1 h2 hz
  rw [hfo] at g2
  exact ⟨bs[i], num, g1, g2⟩
/-- A name that is not left. -/
theorem crash_gone {A : FsA} {n : Nat} {dirs : Int} {tails : List Int} {bs : List Nat} {s : ByteArray} (hI : Inv A n) (hl : bs.length = (namesD (leftD A dirs)).length) (hg : dget (leftD A dirs) s = none) :
    dget (crashA A dirs tails bs).now s = none := by
  have hO : OkD A.file (leftD A dirs) := hI.ok _
  rw [← bytes_back s] at hg ⊢
  show dget (crashX A (leftD A dirs) tails _).now _ = none
  unfold crashX
  rw [fold_get_other]
  · rfl
  · rw [List.map_fst_zip (by omega)]
    intro hm
    obtain ⟨b, f, h1, _⟩ := name_file hO hm
    rw [hg] at h1; cases h1

/-- A file system that a crash is making. -/
structure Mid (X : FsA) (k : Nat) (room : Int) : Prop where
  count : X.count = 0
  armed : X.armed = false
  left : X.left = 0
  plan : X.plan = []
  since : X.since = []
  room : X.room = room
  created : X.created = k
  size : Maps.size X.now ≤ k
  tidy : Maps.Tidy X.now
  ok : OkD X.file X.now
  short : Short X
  num : ∀ b f, X.file b = some f → 0 ≤ f.num ∧ f.num ≤ k
theorem crashedF_short {f : Fil} {t num : Int} (h1 : f.data.length ≤ 65536) (h2 : f.sure ≤ f.data.length) : (crashedF f t num).data.length ≤ 65536 ∧ (crashedF f t num).sure ≤ (crashedF f t num).data.length := by
  have h3 := leftN_le f t h2
  unfold crashedF
  simp only [List.length_take]; omega
theorem fileOf_short {A : FsA} (h : Short A) (L : DataW Unit) (s : List UInt8) : (fileOf A L s).data.length ≤ 65536 ∧ (fileOf A L s).sure ≤ (fileOf A L s).data.length := by
  unfold fileOf
  cases h1 : (dget L ⟨s.toArray⟩).bind A.file with
  | none => simp
  | some f =>
    obtain ⟨b, _, hb⟩ := Option.bind_eq_some_iff.1 h1
    exact h b f hb
theorem Mid.step {A X : FsA} {L : DataW Unit} {tails : List Int} {k : Nat} {room : Int} {p : List UInt8 × Nat} (h : Mid X k room) (hA : Short A) (hs : p.1.length ≤ 20) : Mid (crashStep A L tails X p) (k + 1) room := by
  have hsh := fileOf_short hA L p.1
  have hcf := crashedF_short (t := tails.getD (fileOf A L p.1).num.toNat 0) (num := X.created) hsh.1 hsh.2
  refine ⟨h.count, h.armed, h.left, h.plan, h.since, h.room, by show X.created + 1 = _; rw [h.created]; rfl, ?_, ?_, ?_, ?_, ?_⟩
  · rw [crashStep_now, size_put h.tidy]
    have := h.size
    split <;> omega
  · rw [crashStep_now]; exact h.tidy.put (keyLit _) _
  · rw [crashStep_now]
    refine OkD.put (f := crashedF (fileOf A L p.1) (tails.getD (fileOf A L p.1).num.toNat 0) X.created) (h.ok.mono fun b f hb => ?_) (by show p.1.toArray.size ≤ 20; simpa using hs) (if_pos rfl)
    show ∃ f', (if b = p.2 then _ else X.file b) = some f'
    by_cases e : b = p.2
    · exact ⟨_, if_pos e⟩
    · exact ⟨f, by rw [if_neg e]; exact hb⟩
  · intro b f hb
    have hb' : (if b = p.2 then some (crashedF (fileOf A L p.1) (tails.getD (fileOf A L p.1).num.toNat 0) X.created) else X.file b) = some f := hb
    by_cases e : b = p.2
    · rw [if_pos e] at hb'; cases hb'; exact hcf
    · rw [if_neg e] at hb'; exact h.short b f hb'
  · intro b f hb
    have hb' : (if b = p.2 then some (crashedF (fileOf A L p.1) (tails.getD (fileOf A L p.1).num.toNat 0) X.created) else X.file b) = some f := hb
    by_cases e : b = p.2
    · rw [if_pos e] at hb'; cases hb'
      show 0 ≤ X.created ∧ X.created ≤ ((k + 1 : Nat) : Int)
      rw [h.created]; omega
    · rw [if_neg e] at hb'; have := h.num b f hb'; omega
theorem Mid.fold {A : FsA} {L : DataW Unit} {tails : List Int} {room : Int} (hA : Short A) : ∀ (l : List (List UInt8 × Nat)) (X : FsA) (k : Nat), Mid X k room → (∀ p ∈ l, p.1.length ≤ 20) → Mid (l.foldl (crashStep A L tails) X) (k + l.length) room
  | [], X, k, h, _ => h
  | p :: l, X, k, h, hl => by
    have := Mid.fold (L := L) (tails := tails) hA l _ (k + 1) (h.step (L := L) (tails := tails) hA (hl p List.mem_cons_self)) fun q hq => hl q (List.mem_cons_of_mem _ hq)
    rw [List.length_cons, show k + (l.length + 1) = k + 1 + l.length by omega]; exact this
theorem Mid.new (room : Int) : Mid (newA room) 0 room :=
  ⟨rfl, rfl, rfl, rfl, rfl, rfl, rfl, Nat.le_refl _, Maps.tidy_empty, ⟨[], rfl, fun p h => (by cases h)⟩, (fun b f h => by cases h), (fun b f h => by cases h)⟩
/-- What a crash leaves keeps the rules. -/
theorem Inv.crash {A : FsA} {n : Nat} {dirs : Int} {tails : List Int} {bs : List Nat} (hI : Inv A n) (hl : bs.length = (namesD (leftD A dirs)).length) : Inv (crashA A dirs tails bs) n := by
  have hO : OkD A.file (leftD A dirs) := hI.ok _
  have hsz : (namesD (leftD A dirs)).length ≤ n := by
    have h1 : Maps.size (leftD A dirs) ≤ n := hI.size _
    obtain ⟨es, he, _⟩ := hO
    rw [he] at h1 ⊢
    unfold namesD
    rw [List.length_mergeSort]
    rw [size_eq] at h1
    simpa [strKeys] using h1
  have hM := Mid.fold (L := leftD A dirs) (tails := tails) (room := A.room) hI.short ((namesD (leftD A dirs)).zip bs) (newA A.room) 0 (Mid.new A.room) fun p hp => by
    obtain ⟨_, _, _, _, h⟩ := name_file hO (List.of_mem_zip hp).1
    exact h
  rw [Nat.zero_add] at hM
  have hzl : ((namesD (leftD A dirs)).zip bs).length ≤ n := by rw [List.length_zip]; omega
  have hp : ∀ i, preD (crashA A dirs tails bs) i = (crashA A dirs tails bs).now := fun i => by
    unfold preD
    rw [show (crashA A dirs tails bs).since = [] from hM.since, List.take_nil]; rfl
  refine ⟨⟨by rw [show (crashA A dirs tails bs).count = 0 from hM.count]; omega, by rw [show (crashA A dirs tails bs).count = 0 from hM.count]; omega⟩, ⟨by rw [show (crashA A dirs tails bs).left = 0 from hM.left]; omega, by rw [show (crashA A dirs tails bs).left = 0 from hM.left]; omega⟩,
    by rw [show (crashA A dirs tails bs).plan = [] from hM.plan]; show 0 < _; omega, (fun k hk => by rw [show (crashA A dirs tails bs).plan = [] from hM.plan] at hk; cases hk), by rw [show (crashA A dirs tails bs).room = A.room from hM.room]; exact hI.room,
    ?_, by rw [show (crashA A dirs tails bs).since = [] from hM.since]; exact Nat.zero_le _, (hp _).symm, (fun i => by rw [hp]; exact Nat.le_trans hM.size hzl), (fun i => by rw [hp]; exact hM.tidy), (fun i => by rw [hp]; exact hM.ok), hM.short, fun b f hf => ?_⟩
  · have hc : (crashA A dirs tails bs).created = (((namesD (leftD A dirs)).zip bs).length : Nat) := hM.created
    rw [hc]; omega
  · have := hM.num b f hf; omega
end Go.Proofs.Ytpfbiijcmmkjlaa
