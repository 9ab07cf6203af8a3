/- Package simfs: two files, one of them renamed; what a crash leaves of them. Package simfs: a file that is renamed over another one, and what a crash leaves; how many names a crash leaves. -/
import Derived.Test.YtigbgajelkknbaaGreatDoorFsOb
namespace Go.Proofs.YtigbgajelkknbaaGreatDoor
open Go.RowKit Go.Maps Go.WideMaps
set_option maxRecDepth 100000

def nK : ByteArray := ⟨#[107, 101, 112, 116]⟩
def nL : ByteArray := ⟨#[108, 97, 116, 101, 114]⟩
def nZ : ByteArray := ⟨#[108, 97, 115, 116]⟩
theorem nameK : nameB nK = true := by decide +kernel
theorem nameL : nameB nL = true := by decide +kernel
theorem nameZ : nameB nZ = true := by decide +kernel
theorem l_k : nL ≠ nK := by decide
theorem z_k : nZ ≠ nK := by decide
theorem z_l : nZ ≠ nL := by decide
theorem one_other {s t : ByteArray} (h : t ≠ s) (b : Nat) : dget (oneD s b) t = none := by
  rw [← one_put, dget_put_other h]; rfl
theorem one_map (s : ByteArray) (b : Nat) : Maps.IsMap (oneD s b) := ⟨_, rfl⟩
/-- With "later". -/
def dL (b b' : Nat) : DataW Unit := (Chg.create nL b').ap (oneD nK b)
/-- With "last". -/
def dZ (b b' : Nat) : DataW Unit := (Chg.rename nL nZ).ap (dL b b')
theorem dL_k (b b' : Nat) : dget (dL b b') nK = some b := by
  show dget ((oneD nK b).put _ _) _ = _; rw [dget_put_other l_k.symm]; exact one_get nK b
theorem dL_l (b b' : Nat) : dget (dL b b') nL = some b' := dget_put_same (one_map _ _) _ _
theorem dL_z (b b' : Nat) : dget (dL b b') nZ = none := by
  show dget ((oneD nK b).put _ _) _ = _; rw [dget_put_other z_l]; exact one_other z_k b
theorem dL_map (b b' : Nat) : Maps.IsMap (dL b b') := (one_map _ _).put _ _
theorem dZ_k (b b' : Nat) : dget (dZ b b') nK = some b := by
  show dget (((dL b b').del _).put _ _) _ = _; rw [dget_put_other z_k.symm, dget_del_other l_k.symm]; exact dL_k b b'
theorem dZ_l (b b' : Nat) : dget (dZ b b') nL = none := by
  show dget (((dL b b').del _).put _ _) _ = _; rw [dget_put_other z_l.symm]; exact dget_del_same _
theorem dZ_z (b b' : Nat) : dget (dZ b b') nZ = some b' := by
  show dget (((dL b b').del _).put _ (datOf (dget (dL b b') nL))) _ = _
  rw [dL_l]; exact dget_put_same ((dL_map _ _).del _) _ _
theorem dL_eq (b b' : Nat) : dL b b' = .map [(keyL nK, .lit (.int .i64 (b : Nat))), (keyL nL, .lit (.int .i64 (b' : Nat)))] := by
  rfl

section
variable {w0 w : World} {g : Nat} {A : FsA} {s : ByteArray} {b b' : Nat} {f f' : Fil} {room : Int} {n : Nat}
theorem append_own_arg {v : Value} {p : List Int} (h : Own w0 w g A) (hO : One A s b f room n) (hn : n < 900) (hp : Bytes w v p) (hv : ∀ x, v.ownBlock = some x → x < w0.heap.size) (hl : f.data.length + p.length ≤ 65536) (hr : (f.data.length : Int) + p.length ≤ room) :
    Calls Tryz.prog 44 #[.pointer (some ⟨g, 0, none⟩), .string s, v] w fun e w' => ∃ A', e = .returned (.int .i64 0) ∧ Own w0 w' g A' ∧ One A' s b { f with data := f.data ++ p } room (n + 1) ∧ A'.sure = A.sure ∧ A'.since = A.since := by
  have hsz := hO.bound
  refine (append_gen s v p h hO.inv hn (by omega) hp (by omega) hv).mono fun e w' ⟨he, hF⟩ => ?_
  rw [append_calm hO.calm hO.name hO.get hO.file hl (by rw [hO.used, hO.room]; exact hr)] at he hF
  exact ⟨_, he, hF, hO.set (by simp; omega) (by have := (hO.inv.short b f hO.file).2; simp; omega) rfl, rfl, rfl⟩
theorem dir_own (h : Own w0 w g A) (hO : One A s b f room n) (hn : n < 900) :
    Calls Tryz.prog 55 #[.pointer (some ⟨g, 0, none⟩)] w fun e w' => ∃ A', e = .returned (.int .i64 0) ∧ Own w0 w' g A' ∧ One A' s b f room (n + 1) ∧ A'.sure = oneD s b ∧ A'.since = [] := by
  refine (dir_gen h hO.inv hn).mono fun e w' ⟨he, hF⟩ => ?_
  rw [dir_calm hO.calm] at he hF
  exact ⟨_, he, hF, ⟨hO.inv.count.dir, ⟨hO.calm.a, hO.calm.p⟩, hO.name, hO.now, hO.file, hO.room⟩, hO.now, rfl⟩
/-- Two files, "kept" and a younger one. -/
structure Two (A : FsA) (b b' : Nat) (f f' : Fil) (D : DataW Unit) (cs : List Chg) (n : Nat) : Prop where
  inv : Inv A n
  calm : Calm A
  now : A.now = D
  ne : b ≠ b'
  file : A.file b = some f
  file' : A.file b' = some f'
  room : A.room = 2000
  sure : A.sure = oneD nK b
  since : A.since = cs
theorem create2_own (h : Own w0 w g A) (hO : One A nK b f 2000 n) (hn : n < 800) (hsu : A.sure = oneD nK b) (hsi : A.since = []) :
    Calls Tryz.prog 43 #[.pointer (some ⟨g, 0, none⟩), .string nL] w fun e w' => ∃ b' num A', e = .returned (.int .i64 0) ∧ Own w0 w' g A' ∧ Two A' b b' f ⟨num, [], 0⟩ (dL b b') [.create nL b'] (n + 3) := by
  have hge : ∀ x, w.heap.size ≤ x → A.file x = none := fun x hx => by obtain ⟨S, k1, _, _⟩ := h; exact k1.ge hx
  refine (create_gen nL h hO.inv (by omega) (by decide)).mono fun e w' ⟨b', hb', he, hF⟩ => ?_
  rw [create_calm hO.calm nameL (by rw [hO.now]; exact one_other l_k b) (by rw [hO.size]; omega) b'] at he hF
  have hne : b ≠ b' := fun e => by have := hge b' hb'; rw [← e, hO.file] at this; cases this
  refine ⟨b', A.created, _, he, hF, ⟨hO.inv.createCalm (by decide) b', ⟨hO.calm.a, hO.calm.p⟩, ?_, hne, ?_, ?_, hO.room, hsu, ?_⟩⟩
  · show (Chg.create nL b').ap A.now = _
    rw [hO.now]; rfl
  · show (if b = b' then _ else A.file b) = _
    rw [if_neg hne]; exact hO.file
  · show (if b' = b' then _ else _) = _
    rw [if_pos rfl]
  · show A.since ++ _ = _
    rw [hsi]; rfl
theorem Two.used {cs : List Chg} (h : Two A b b' f f' (dL b b') cs n) : usedA A = f.data.length + f'.data.length := by
  unfold usedA; rw [h.now, dL_eq]; unfold usedD tot wt; simp [h.file, h.file']
theorem Two.set {D : DataW Unit} {cs : List Chg} {q : Fil} (h : Two A b b' f f' D cs n) (hl : q.data.length ≤ 65536) (hs : q.sure ≤ q.data.length) (hn : q.num = f'.num) : Two (setF { A with count := A.count + 1 } b' q) b b' f q D cs (n + 1) :=
  ⟨h.inv.count.setF hl hs (by rw [hn]; have := h.inv.num b' f' h.file'; exact ⟨this.1, by have := this.2; omega⟩), ⟨h.calm.a, h.calm.p⟩, h.now, h.ne, by show (if b = b' then _ else A.file b) = _; rw [if_neg h.ne]; exact h.file, by show (if b' = b' then _ else _) = _; rw [if_pos rfl], h.room, h.sure, h.since⟩
theorem append2_own {v : Value} {p : List Int} {cs : List Chg} (h : Own w0 w g A) (hT : Two A b b' f f' (dL b b') cs n) (hn : n < 800) (hp : Bytes w v p) (hv : ∀ x, v.ownBlock = some x → x < w0.heap.size) (hl : f'.data.length + p.length ≤ 65536) (hr : (f.data.length : Int) + f'.data.length + p.length ≤ 2000) :
    Calls Tryz.prog 44 #[.pointer (some ⟨g, 0, none⟩), .string nL, v] w fun e w' => ∃ A', e = .returned (.int .i64 0) ∧ Own w0 w' g A' ∧ Two A' b b' f { f' with data := f'.data ++ p } (dL b b') cs (n + 1) := by
  refine (append_gen nL v p h hT.inv (by omega) (by decide) hp (by omega) hv).mono fun e w' ⟨he, hF⟩ => ?_
  rw [append_calm hT.calm nameL (by rw [hT.now]; exact dL_l b b') hT.file' hl (by rw [hT.used, hT.room]; omega)] at he hF
  exact ⟨_, he, hF, hT.set (by simp; omega) (by have := (hT.inv.short b' f' hT.file').2; simp; omega) rfl⟩
theorem sync2_own {cs : List Chg} (h : Own w0 w g A) (hT : Two A b b' f f' (dL b b') cs n) (hn : n < 800) :
    Calls Tryz.prog 53 #[.pointer (some ⟨g, 0, none⟩), .string nL] w fun e w' => ∃ A', e = .returned (.int .i64 0) ∧ Own w0 w' g A' ∧ Two A' b b' f { f' with sure := f'.data.length } (dL b b') cs (n + 1) := by
  refine (sync_gen nL h hT.inv (by omega) (by decide)).mono fun e w' ⟨he, hF⟩ => ?_
  rw [sync_calm hT.calm nameL (by rw [hT.now]; exact dL_l b b') hT.file'] at he hF
  exact ⟨_, he, hF, hT.set (hT.inv.short b' f' hT.file').1 (Nat.le_refl _) rfl⟩
theorem rename2_own (h : Own w0 w g A) (hT : Two A b b' f f' (dL b b') [.create nL b'] n) (hn : n < 800) :
    Calls Tryz.prog 57 #[.pointer (some ⟨g, 0, none⟩), .string nL, .string nZ] w fun e w' => ∃ A', e = .returned (.int .i64 0) ∧ Own w0 w' g A' ∧ Two A' b b' f f' (dZ b b') [.create nL b', .rename nL nZ] (n + 2) := by
  have hd : dget A.now nL = some b' := by rw [hT.now]; exact dL_l b b'
  refine (rename_gen nL nZ h hT.inv (by omega) (by decide) (by decide)).mono fun e w' ⟨he, hF⟩ => ?_
  rw [rename_calm hT.calm nameL nameZ hd] at he hF
  refine ⟨_, he, hF, ⟨hT.inv.count.change ⟨by decide, b', hd⟩, ⟨hT.calm.a, hT.calm.p⟩, ?_, hT.ne, hT.file, hT.file', hT.room, hT.sure, ?_⟩⟩
  · show (Chg.rename nL nZ).ap A.now = _
    rw [hT.now]; rfl
  · show A.since ++ _ = _
    rw [hT.since]; rfl
theorem readA_some {X : FsA} {s : ByteArray} {b : Nat} {f : Fil} (hs : nameB s = true) (hd : dget X.now s = some b) (hf : X.file b = some f) : readA X s = (f.data, 0) := by
  unfold readA; rw [findA_some hs hd]; simp [hf]
theorem readA_none {X : FsA} {s : ByteArray} (hs : nameB s = true) (hd : dget X.now s = none) : readA X s = ([], 3) := by
  unfold readA; rw [findA_none hs hd]; rfl
/-- A crash of them. -/
theorem crash2_own {v : Value} {tails : List Int} {d : Int} (h : Own w0 w g A) (hT : Two A b b' f f' (dZ b b') [.create nL b', .rename nL nZ] n) (hn : n < 800) (hf0 : f.num = 0) (hfs : f'.sure = f'.data.length) (hv : Ints w v tails) (htl : tails.length < 1000) :
    Calls Tryz.prog 42 #[.pointer (some ⟨g, 0, none⟩), .int .i64 d, v] w fun e w' => ∃ g' X, e = .returned (.pointer (some ⟨g', 0, none⟩)) ∧ Own w0 w' g' X ∧ Inv X n ∧ readA X nK = (f.data.take (leftN f (tails.getD 0 0)), 0) ∧
      readA X nL = (if d = 1 then (f'.data, 0) else ([], 3)) ∧ readA X nZ = (if 2 ≤ d then (f'.data, 0) else ([], 3)) := by
  refine (crash_gen d v tails h hT.inv (by omega) hv htl).mono fun e w' ⟨g', bs, he, hbl, hnd, hF, _, _⟩ => ⟨g', _, he, hF, hT.inv.crash hbl, ?_⟩
  have hw : (withinOf d A.since.length).toNat = if d ≤ 0 then 0 else if d = 1 then 1 else 2 := by
    rw [hT.since]; unfold withinOf; simp only [List.length_cons, List.length_nil]; split
    · omega
    · split <;> omega
  have hL : leftD A d = if d ≤ 0 then oneD nK b else if d = 1 then dL b b' else dZ b b' := by
    unfold leftD
    rw [hw]
    unfold preD
    rw [hT.sure, hT.since]
    split
    · rfl
    · split <;> rfl
  have hcf : ∀ t num, (crashedF f' t num).data = f'.data := fun t num => by
    unfold crashedF
    simp only
    rw [List.take_of_length_le]
    unfold leftN; omega
  have hk : dget (leftD A d) nK = some b := by
    rw [hL]; split
    · exact one_get nK b
    · split
      · exact dL_k b b'
      · exact dZ_k b b'
  obtain ⟨x, num, h1, h2⟩ := crash_get (tails := tails) hT.inv hbl hnd hk hT.file
  rw [hf0] at h2
  refine ⟨readA_some nameK h1 h2, ?_, ?_⟩
  · by_cases hd : d = 1
    · rw [if_pos hd]
      have hl : dget (leftD A d) nL = some b' := by rw [hL, if_neg (by omega), if_pos hd]; exact dL_l b b'
      obtain ⟨y, num', h3, h4⟩ := crash_get (tails := tails) hT.inv hbl hnd hl hT.file'
      rw [readA_some nameL h3 h4, hcf]
    · rw [if_neg hd]
      have hl : dget (leftD A d) nL = none := by
        rw [hL]; split
        · exact one_other l_k b
        · exact dZ_l b b'
      exact readA_none nameL (crash_gone hT.inv hbl hl)
  · by_cases hd : 2 ≤ d
    · rw [if_pos hd]
      have hl : dget (leftD A d) nZ = some b' := by rw [hL, if_neg (by omega), if_neg (by omega)]; exact dZ_z b b'
      obtain ⟨y, num', h3, h4⟩ := crash_get (tails := tails) hT.inv hbl hnd hl hT.file'
      rw [readA_some nameZ h3 h4, hcf]
    · rw [if_neg hd]
      have hl : dget (leftD A d) nZ = none := by
        rw [hL]; split
        · exact one_other z_k b
        · rw [if_pos (by omega)]; exact dL_z b b'
      exact readA_none nameZ (crash_gone hT.inv hbl hl)
end
end Go.Proofs.YtigbgajelkknbaaGreatDoor
namespace Go.Proofs.YtigbgajelkknbaaGreatDoor
open Go.RowKit Go.Maps Go.WideMaps
set_option maxRecDepth 100000

theorem names_size {D : DataW Unit} (h : Maps.IsMap D) : (namesD D).length = Maps.size D := by
  obtain ⟨es, rfl⟩ := h
  unfold namesD
  rw [List.length_mergeSort, size_eq]
  simp [strKeys]
section
variable {A : FsA} {L : DataW Unit} {tails : List Int}
theorem fold_size : ∀ (l : List (List UInt8 × Nat)) (X : FsA), Maps.Tidy X.now → (l.map Prod.fst).Nodup → (∀ p ∈ l, Maps.has X.now (keyL ⟨p.1.toArray⟩) = false) →
    Maps.Tidy (l.foldl (crashStep A L tails) X).now ∧ Maps.size (l.foldl (crashStep A L tails) X).now = Maps.size X.now + l.length
  | [], _, ht, _, _ => ⟨ht, rfl⟩
  | p :: l, X, ht, hn, hh => by
    rw [List.map_cons, List.nodup_cons] at hn
    rw [List.foldl_cons]
    have h1 : Maps.Tidy (crashStep A L tails X p).now := by rw [crashStep_now]; exact ht.put (keyLit _) _
    have h2 : Maps.size (crashStep A L tails X p).now = Maps.size X.now + 1 := by rw [crashStep_now, size_put ht, if_neg (by rw [hh p List.mem_cons_self]; simp)]
    obtain ⟨g1, g2⟩ := fold_size l (crashStep A L tails X p) h1 hn.2 fun q hq => by
      rw [crashStep_now, has_put_other]
      · exact hh q (List.mem_cons_of_mem _ hq)
      · intro e
        have := arr_inj (keyL_inj e)
        exact hn.1 (by rw [← this]; exact List.mem_map_of_mem hq)
    exact ⟨g1, by rw [g2, h2, List.length_cons]; omega⟩
end
/-- As many names are left as the directory has that is. -/
theorem crash_names {n : Nat} {A : FsA} {dirs : Int} {tails : List Int} {bs : List Nat} (hI : Inv A n) (hl : bs.length = (namesD (leftD A dirs)).length) :
    (namesD (crashA A dirs tails bs).now).length = (namesD (leftD A dirs)).length := by
  have hT : Maps.Tidy (leftD A dirs) := hI.tidy _
  have hO : OkD A.file (leftD A dirs) := hI.ok _
  have h1 : (((namesD (leftD A dirs)).zip bs).map Prod.fst).Nodup := by
    rw [List.map_fst_zip (by omega)]; exact names_nodup hT hO
  obtain ⟨g1, g2⟩ := fold_size (A := A) (L := leftD A dirs) (tails := tails) ((namesD (leftD A dirs)).zip bs) (newA A.room) Maps.tidy_empty h1 (fun p _ => rfl)
  show (namesD (List.foldl (crashStep A (leftD A dirs) tails) (newA A.room) ((namesD (leftD A dirs)).zip bs)).now).length = _
  rw [names_size g1.isMap, g2, List.length_zip]
  show 0 + _ = _
  omega

def nBb : ByteArray := ⟨#[98]⟩
theorem nameBb : nameB nBb = true := by decide +kernel
theorem b_a : nBb ≠ nA := by decide
/-- With "b". -/
def dB (b b' : Nat) : DataW Unit := (Chg.create nBb b').ap (oneD nA b)
/-- "b" renamed over "a". -/
def dSw (b b' : Nat) : DataW Unit := (Chg.rename nBb nA).ap (dB b b')
theorem dB_a (b b' : Nat) : dget (dB b b') nA = some b := by
  show dget ((oneD nA b).put _ _) _ = _; rw [dget_put_other b_a.symm]; exact one_get nA b
theorem dB_b (b b' : Nat) : dget (dB b b') nBb = some b' := dget_put_same (one_map _ _) _ _
theorem dB_eq (b b' : Nat) : dB b b' = .map [(keyL nA, .lit (.int .i64 (b : Nat))), (keyL nBb, .lit (.int .i64 (b' : Nat)))] := by
  rfl
theorem dB_map (b b' : Nat) : Maps.IsMap (dB b b') := ⟨_, dB_eq b b'⟩
theorem dSw_a (b b' : Nat) : dget (dSw b b') nA = some b' := by
  show dget (((dB b b').del _).put _ (datOf (dget (dB b b') nBb))) _ = _
  rw [dB_b]; exact dget_put_same ((dB_map _ _).del _) _ _
theorem dSw_eq (b b' : Nat) : dSw b b' = oneD nA b' := by
  show (((dB b b').del _).put _ (datOf (dget (dB b b') nBb))) = _
  rw [dB_b, dB_eq]; rfl

section
variable {w0 w : World} {g : Nat} {A : FsA} {b b' : Nat} {f f' : Fil} {n : Nat} {D Su : DataW Unit} {cs : List Chg}
structure Sw (A : FsA) (b b' : Nat) (f f' : Fil) (D Su : DataW Unit) (cs : List Chg) (n : Nat) : Prop where
  inv : Inv A n
  calm : Calm A
  now : A.now = D
  ne : b ≠ b'
  file : A.file b = some f
  file' : A.file b' = some f'
  room : A.room = 2000
  sure : A.sure = Su
  since : A.since = cs
theorem createS_own (h : Own w0 w g A) (hO : One A nA b f 2000 n) (hn : n < 800) (hsu : A.sure = oneD nA b) (hsi : A.since = []) :
    Calls Tryz.prog 43 #[.pointer (some ⟨g, 0, none⟩), .string nBb] w fun e w' => ∃ b' num A', e = .returned (.int .i64 0) ∧ Own w0 w' g A' ∧ Sw A' b b' f ⟨num, [], 0⟩ (dB b b') (oneD nA b) [.create nBb b'] (n + 3) := by
  have hge : ∀ x, w.heap.size ≤ x → A.file x = none := fun x hx => by obtain ⟨S, k1, _, _⟩ := h; exact k1.ge hx
  refine (create_gen nBb h hO.inv (by omega) (by decide)).mono fun e w' ⟨b', hb', he, hF⟩ => ?_
  rw [create_calm hO.calm nameBb (by rw [hO.now]; exact one_other b_a b) (by rw [hO.size]; omega) b'] at he hF
  have hne : b ≠ b' := fun e => by have := hge b' hb'; rw [← e, hO.file] at this; cases this
  refine ⟨b', A.created, _, he, hF, ⟨hO.inv.createCalm (by decide) b', ⟨hO.calm.a, hO.calm.p⟩, ?_, hne, ?_, ?_, hO.room, hsu, ?_⟩⟩
  · show (Chg.create nBb b').ap A.now = _
    rw [hO.now]; rfl
  · show (if b = b' then _ else A.file b) = _
    rw [if_neg hne]; exact hO.file
  · show (if b' = b' then _ else _) = _
    rw [if_pos rfl]
  · show A.since ++ _ = _
    rw [hsi]; rfl
theorem Sw.used (h : Sw A b b' f f' (dB b b') Su cs n) : usedA A = f.data.length + f'.data.length := by
  unfold usedA; rw [h.now, dB_eq]; unfold usedD tot wt; simp [h.file, h.file']
theorem Sw.set {q : Fil} (h : Sw A b b' f f' D Su cs n) (hl : q.data.length ≤ 65536) (hs : q.sure ≤ q.data.length) (hn : q.num = f'.num) : Sw (setF { A with count := A.count + 1 } b' q) b b' f q D Su cs (n + 1) :=
  ⟨h.inv.count.setF hl hs (by rw [hn]; have := h.inv.num b' f' h.file'; exact ⟨this.1, by have := this.2; omega⟩), ⟨h.calm.a, h.calm.p⟩, h.now, h.ne, by show (if b = b' then _ else A.file b) = _; rw [if_neg h.ne]; exact h.file, by show (if b' = b' then _ else _) = _; rw [if_pos rfl], h.room, h.sure, h.since⟩
theorem appendS_own {v : Value} {p : List Int} (h : Own w0 w g A) (hT : Sw A b b' f f' (dB b b') Su cs n) (hn : n < 800) (hp : Bytes w v p) (hv : ∀ x, v.ownBlock = some x → x < w0.heap.size) (hl : f'.data.length + p.length ≤ 65536) (hr : (f.data.length : Int) + f'.data.length + p.length ≤ 2000) :
    Calls Tryz.prog 44 #[.pointer (some ⟨g, 0, none⟩), .string nBb, v] w fun e w' => ∃ A', e = .returned (.int .i64 0) ∧ Own w0 w' g A' ∧ Sw A' b b' f { f' with data := f'.data ++ p } (dB b b') Su cs (n + 1) := by
  refine (append_gen nBb v p h hT.inv (by omega) (by decide) hp (by omega) hv).mono fun e w' ⟨he, hF⟩ => ?_
  rw [append_calm hT.calm nameBb (by rw [hT.now]; exact dB_b b b') hT.file' hl (by rw [hT.used, hT.room]; omega)] at he hF
  exact ⟨_, he, hF, hT.set (by simp; omega) (by have := (hT.inv.short b' f' hT.file').2; simp; omega) rfl⟩
theorem syncS_own (h : Own w0 w g A) (hT : Sw A b b' f f' (dB b b') Su cs n) (hn : n < 800) :
    Calls Tryz.prog 53 #[.pointer (some ⟨g, 0, none⟩), .string nBb] w fun e w' => ∃ A', e = .returned (.int .i64 0) ∧ Own w0 w' g A' ∧ Sw A' b b' f { f' with sure := f'.data.length } (dB b b') Su cs (n + 1) := by
  refine (sync_gen nBb h hT.inv (by omega) (by decide)).mono fun e w' ⟨he, hF⟩ => ?_
  rw [sync_calm hT.calm nameBb (by rw [hT.now]; exact dB_b b b') hT.file'] at he hF
  exact ⟨_, he, hF, hT.set (hT.inv.short b' f' hT.file').1 (Nat.le_refl _) rfl⟩
theorem renameS_own (h : Own w0 w g A) (hT : Sw A b b' f f' (dB b b') Su [.create nBb b'] n) (hn : n < 800) :
    Calls Tryz.prog 57 #[.pointer (some ⟨g, 0, none⟩), .string nBb, .string nA] w fun e w' => ∃ A', e = .returned (.int .i64 0) ∧ Own w0 w' g A' ∧ Sw A' b b' f f' (dSw b b') Su [.create nBb b', .rename nBb nA] (n + 2) := by
  have hd : dget A.now nBb = some b' := by rw [hT.now]; exact dB_b b b'
  refine (rename_gen nBb nA h hT.inv (by omega) (by decide) (by decide)).mono fun e w' ⟨he, hF⟩ => ?_
  rw [rename_calm hT.calm nameBb nameA hd] at he hF
  refine ⟨_, he, hF, ⟨hT.inv.count.change ⟨by decide, b', hd⟩, ⟨hT.calm.a, hT.calm.p⟩, ?_, hT.ne, hT.file, hT.file', hT.room, hT.sure, ?_⟩⟩
  · show (Chg.rename nBb nA).ap A.now = _
    rw [hT.now]; rfl
  · show A.since ++ _ = _
    rw [hT.since]; rfl
theorem dirS_own (h : Own w0 w g A) (hT : Sw A b b' f f' D Su cs n) (hn : n < 800) :
    Calls Tryz.prog 55 #[.pointer (some ⟨g, 0, none⟩)] w fun e w' => ∃ A', e = .returned (.int .i64 0) ∧ Own w0 w' g A' ∧ Sw A' b b' f f' D D [] (n + 1) := by
  refine (dir_gen h hT.inv (by omega)).mono fun e w' ⟨he, hF⟩ => ?_
  rw [dir_calm hT.calm] at he hF
  exact ⟨_, he, hF, ⟨hT.inv.count.dir, ⟨hT.calm.a, hT.calm.p⟩, hT.now, hT.ne, hT.file, hT.file', hT.room, hT.now, rfl⟩⟩
/-- The same, with a list in memory that was made just before, and that may be appended to. -/
theorem dirS_keep {wB : World} {ls : List Value} (h : Own w0 w g A) (hT : Sw A b b' f f' D Su cs n) (hn : n < 800) (hb : Below w.heap.size w wB) (hk : Blk wB w.heap.size 26 ls) :
    Calls Tryz.prog 55 #[.pointer (some ⟨g, 0, none⟩)] wB fun e w' => ∃ A', e = .returned (.int .i64 0) ∧ Own w0 w' g A' ∧ Sw A' b b' f f' D D [] (n + 1) ∧ Blk w' w.heap.size 26 ls ∧
      ∀ wc w'', Below w'.heap.size w' wc → wc.grownBy w'' (some w.heap.size) → Own w0 w'' g A' := by
  obtain ⟨S, k1, k2, k3⟩ := h
  refine (syncDir_any g S A wB (k1.below hb) (hT.inv.Num (by omega))).mono fun e w' ⟨he, hF, hK⟩ => ?_
  rw [dir_calm hT.calm] at he hF
  have hO := own_next (fun k hk => ⟨(k2 k hk).1, Nat.lt_of_lt_of_le (k2 k hk).2 hb.size⟩) (k3.trans (hb.mono k3.size)) hF hK
  refine ⟨_, he, hO, ⟨hT.inv.count.dir, ⟨hT.calm.a, hT.calm.p⟩, hT.now, hT.ne, hT.file, hT.file', hT.room, hT.now, rfl⟩, ?_, fun wc w'' hc hg => ?_⟩
  · unfold Blk
    rw [hK.block _ hk.lt (fun hS => by have := (k2 _ hS).2; omega)]
    exact hk
  · have hlt := hk.lt
    have hsz := hb.size
    refine ⟨_, (hF.below hc).to (fun _ k => k) fun k hS hlk => ?_, fun k hS => ?_, ?_⟩
    · refine hg.block k hlk (fun e => ?_)
      have e' : k = w.heap.size := Option.some.inj e
      rcases hS with hS | hS
      · have := (k2 k hS).2; omega
      · omega
    · have hws := hg.size
      have hcs := hc.size
      rcases hS with hS | hS
      · exact ⟨(k2 k hS).1, by have := (k2 k hS).2; have := hK.size; omega⟩
      · exact ⟨by have := k3.size; omega, by omega⟩
    · exact (hO.base.trans (hc.mono hO.base.size)).grown hg (Nat.le_trans hO.base.size hc.size) fun k hk => by
        cases hk; exact k3.size
theorem whole_left {f : Fil} (h : f.sure = f.data.length) (t num : Int) : (crashedF f t num).data = f.data := by
  unfold crashedF
  simp only
  rw [List.take_of_length_le]
  unfold leftN; omega
/-- A crash of them: what "a" is, and how many names there are. -/
theorem crashS_own {d : Int} (h : Own w0 w g A) (hT : Sw A b b' f f' (dSw b b') Su cs n) (hn : n < 800) (hf : f.sure = f.data.length) (hfs : f'.sure = f'.data.length) (q : Fil) (bx : Nat) (hq : q = f ∧ bx = b ∨ q = f' ∧ bx = b') (m : Nat)
    (hL : dget (leftD A d) nA = some bx) (hm : (namesD (leftD A d)).length = m) :
    Calls Tryz.prog 42 #[.pointer (some ⟨g, 0, none⟩), .int .i64 d, .slice none 0 0] w fun e w' => ∃ g' X, e = .returned (.pointer (some ⟨g', 0, none⟩)) ∧ Own w0 w' g' X ∧ Inv X n ∧ readA X nA = (q.data, 0) ∧ (namesD X.now).length = m := by
  refine (crash_gen d (.slice none 0 0) [] h hT.inv (by omega) (.inl ⟨rfl, rfl⟩) (by simp)).mono fun e w' ⟨g', bs, he, hbl, hnd, hF, _, _⟩ => ⟨g', _, he, hF, hT.inv.crash hbl, ?_, ?_⟩
  · have hfile : A.file bx = some q := by
      rcases hq with ⟨rfl, rfl⟩ | ⟨rfl, rfl⟩
      · exact hT.file
      · exact hT.file'
    have hqs : q.sure = q.data.length := by
      rcases hq with ⟨rfl, _⟩ | ⟨rfl, _⟩
      · exact hf
      · exact hfs
    obtain ⟨x, num, h1, h2⟩ := crash_get (tails := []) hT.inv hbl hnd hL hfile
    rw [readA_some nameA h1 h2, whole_left hqs]
  · rw [crash_names hT.inv hbl, hm]
theorem leftS_sure (hT : Sw A b b' f f' (dSw b b') (dSw b b') [] n) (d : Int) : leftD A d = dSw b b' := by
  unfold leftD preD
  rw [hT.since, hT.sure, List.take_nil]; rfl
theorem leftS_not (hT : Sw A b b' f f' (dSw b b') (oneD nA b) [.create nBb b', .rename nBb nA] n) (d : Int) : leftD A d = if d ≤ 0 then oneD nA b else if d = 1 then dB b b' else dSw b b' := by
  have hw : (withinOf d A.since.length).toNat = if d ≤ 0 then 0 else if d = 1 then 1 else 2 := by
    rw [hT.since]; unfold withinOf; simp only [List.length_cons, List.length_nil]; split
    · omega
    · split <;> omega
  unfold leftD
  rw [hw]
  unfold preD
  rw [hT.sure, hT.since]
  split
  · rfl
  · split <;> rfl
theorem names_one (s : ByteArray) (x : Nat) : (namesD (oneD s x)).length = 1 := by rw [one_names]; rfl
theorem names_two (x y : Nat) : (namesD (dB x y)).length = 2 := by rw [names_size (dB_map x y), dB_eq]; rfl
end
end Go.Proofs.YtigbgajelkknbaaGreatDoor
