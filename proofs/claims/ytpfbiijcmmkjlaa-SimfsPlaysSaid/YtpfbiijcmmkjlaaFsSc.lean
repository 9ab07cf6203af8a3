/- Package simfs and the reference of layer 2: a crash leaves what tells the same; what holds of every file system, call by call. Plain; nothing is walked. -/
import Derived.Test.YtpfbiijcmmkjlaaFsSb
namespace Go.Proofs.Ytpfbiijcmmkjlaa
open Go.RowKit Go.Maps Go.WideMaps

section
variable {A : FsA} {n : Nat}
theorem inv_create (h : Inv A n) (s : ByteArray) (b : Nat) : Inv (createA A s b).1 (n + 3) := by
  unfold createA
  split
  · rename_i hn
    split
    · exact h.mono (by omega)
    · split
      · exact h.mono (by omega)
      · split
        · have h1 := h.step
          have h2 := h1.setF (b := b) (f := ⟨(stepA A).1.created, [], 0⟩) (by simp) (Nat.zero_le _) ⟨h1.cr.1, h1.cr.2⟩
          have h3 := h2.change (c := .create s b) ⟨(nameB_size hn).2, ⟨(stepA A).1.created, [], 0⟩, by show (if b = b then _ else _) = _; rw [if_pos rfl]⟩
          exact h3.created
        · exact h.step.mono (by omega)
  · exact h.mono (by omega)
theorem inv_append (h : Inv A n) (s : ByteArray) (p : List Int) : Inv (appendA A s p).1 (n + 3) := by
  by_cases h0 : (findA A s).2 = 0
  · obtain ⟨b, f, e1, e2⟩ := findA_ok h0 h.named
    unfold appendA
    rw [e1]
    simp only [e2]
    unfold putA
    have h1 := h.step
    have hnum := h.num b f e2
    have hsh := h.short b f e2
    split
    · exact h.mono (by omega)
    · rename_i hbig
      split
      · split
        · exact h1.mono (by omega)
        · exact (h1.setF (b := b) (f := { f with data := f.data ++ p }) (by rw [List.length_append]; omega) (by show f.sure ≤ (f.data ++ p).length; rw [List.length_append]; omega) ⟨hnum.1, by show f.num ≤ ((n + 1 : Nat) : Int); omega⟩).mono (by omega)
      · refine (h1.setF (b := b) (f := { f with data := f.data ++ p.take _ }) ?_ ?_ ⟨hnum.1, by show f.num ≤ ((n + 1 : Nat) : Int); omega⟩).mono (by omega)
        · rw [List.length_append, List.length_take]; omega
        · show f.sure ≤ (f.data ++ p.take _).length; rw [List.length_append]; omega
  · rw [appendA_err h0]; exact h.mono (by omega)
theorem inv_sync (h : Inv A n) (s : ByteArray) : Inv (syncA A s).1 (n + 3) := by
  unfold syncA
  by_cases h0 : (findA A s).2 = 0
  · obtain ⟨b, f, e1, e2⟩ := findA_ok h0 h.named
    rw [if_pos h0]
    unfold doneA
    split
    · have hfb : (stepA A).1.file b = some f := by rw [(stepA_same A).2.2.2.1]; exact e2
      have hnum := h.num b f e2
      have hsh := h.short b f e2
      have e9 : ({ (stepA A).1 with file := fun k => if some k = (findA A s).1 then ((stepA A).1.file k).map (fun f => { f with sure := f.data.length }) else (stepA A).1.file k } : FsA) = setF (stepA A).1 b { f with sure := f.data.length } := by
        unfold setF
        simp only [e1]
        congr 1
        funext k
        by_cases hk : k = b
        · subst hk; simp [hfb]
        · rw [if_neg (fun e => hk (Option.some.inj e)), if_neg hk]
      show Inv ({ (stepA A).1 with file := fun k => if some k = (findA A s).1 then ((stepA A).1.file k).map (fun f => { f with sure := f.data.length }) else (stepA A).1.file k } : FsA) _
      rw [e9]
      exact (h.step.setF (b := b) (f := { f with sure := f.data.length }) hsh.1 (Nat.le_refl _) ⟨hnum.1, by show f.num ≤ ((n + 1 : Nat) : Int); omega⟩).mono (by omega)
    · exact h.step.mono (by omega)
  · rw [if_neg h0]; exact h.mono (by omega)
theorem inv_dir (h : Inv A n) : Inv (dirA A).1 (n + 3) := by
  unfold dirA doneA
  split
  · exact h.step.dir.mono (by omega)
  · exact h.step.mono (by omega)
theorem inv_remove (h : Inv A n) (s : ByteArray) : Inv (removeA A s).1 (n + 3) := by
  unfold removeA doneA
  split
  · split
    · exact (h.step.change (c := .remove s) trivial).mono (by omega)
    · exact h.step.mono (by omega)
  · exact h.mono (by omega)
theorem inv_rename (h : Inv A n) (a b : ByteArray) : Inv (renameA A a b).1 (n + 3) := by
  unfold renameA doneA
  split
  · rename_i hn
    split
    · exact h.mono (by omega)
    · rename_i hd
      split
      · refine (h.step.change (c := .rename a b) ⟨(nameB_size hn.2).2, ?_⟩).mono (by omega)
        rw [(stepA_same A).1]
        cases e : dget A.now a with
        | none => exact absurd e hd
        | some x => exact ⟨x, rfl⟩
      · exact h.step.mono (by omega)
  · exact h.mono (by omega)
theorem inv_arm (h : Inv A n) (k : Int) (hk : k ≤ 9223372036854775807) : Inv (armA A k).1 (n + 3) := by
  unfold armA
  split
  · exact h.mono (by omega)
  · split
    · exact h.mono (by omega)
    · have hm := h.mono (show n ≤ n + 3 by omega)
      exact ⟨hm.c, ⟨by show 0 ≤ k; omega, hk⟩, hm.p, hm.po, hm.room, hm.cr, hm.since, hm.now, hm.size, hm.tidy, hm.ok, hm.short, hm.num⟩
theorem inv_plan (h : Inv A n) (l : List Int) (hl : l.length < 1000) (hp : ∀ k ∈ l, k ≤ 9223372036854775807) : Inv { A with plan := l } (n + 3) := by
  have hm := h.mono (show n ≤ n + 3 by omega)
  exact ⟨hm.c, hm.l, by show l.length < _; omega, hp, hm.room, hm.cr, hm.since, hm.now, hm.size, hm.tidy, hm.ok, hm.short, hm.num⟩
end
section
variable {A : FsA} {L : DataW Unit} {tails : List Int}
theorem fold_at : ∀ (l : List (List UInt8 × Nat)) (X : FsA) (k : Nat), X.created = k → (l.map Prod.snd).Nodup → ∀ (i : Nat) (p : List UInt8 × Nat), l[i]? = some p →
    (l.foldl (crashStep A L tails) X).file p.2 = some (crashedF (fileOf A L p.1) (tails.getD (fileOf A L p.1).num.toNat 0) ((k + i : Nat) : Int))
  | [], _, _, _, _, i, p, h => by cases h
  | q :: l, X, k, hc, hnd, 0, p, h => by
    cases h
    rw [List.map_cons, List.nodup_cons] at hnd
    rw [List.foldl_cons, fold_file_other l _ hnd.1]
    show (if q.2 = q.2 then some (crashedF _ _ X.created) else _) = _
    rw [if_pos rfl, hc]; rfl
  | q :: l, X, k, hc, hnd, i + 1, p, h => by
    rw [List.map_cons, List.nodup_cons] at hnd
    rw [List.foldl_cons, fold_at l _ (k + 1) (by show X.created + 1 = _; rw [hc]; try rfl) hnd.2 i p (by simpa using h)]
    rw [show k + 1 + i = k + (i + 1) by omega]
end
theorem numb_get (D : List RN) {i : Nat} (hi : i < D.length) : (numb D)[i]? = some ((D[i]).1, (i : Int)) := by
  unfold numb
  rw [List.getElem?_map, List.getElem?_zipIdx, List.getElem?_eq_getElem hi]
  simp
theorem numb_rise {D : List RN} (h : Rising D) : Rising (numb D) := by
  have e : (numb D).map nmL = D.map nmL := by
    apply List.ext_getElem?
    intro i
    rw [List.getElem?_map, List.getElem?_map]
    by_cases hi : i < D.length
    · rw [numb_get D hi, List.getElem?_eq_getElem hi]; rfl
    · rw [List.getElem?_eq_none (by rw [numb_length]; omega), List.getElem?_eq_none (by omega)]
  unfold Rising at h ⊢
  rw [← List.pairwise_map (f := nmL) (R := fun a b => a < b)] at h ⊢
  rw [e]; exact h
theorem cut_filR (f : Fil) (t num : Int) (hs : f.sure ≤ f.data.length) : ((filR f).1.extract 0 (cutN (filR f) t).toNat, cutN (filR f) t) = filR (crashedF f t num) := by
  have e : cutN (filR f) t = (leftN f t : Int) := by
    unfold cutN leftN withinOf filR
    simp only [strOfNums_size]
    split
    · split <;> omega
    · omega
  rw [e, Int.toNat_natCast]
  unfold crashedF filR
  simp only [str_cut0]
theorem sim_crash {A : FsA} {R : RSt} {n : Nat} (h : Sim A R) (hI : Inv A n) (dirs : Int) (tails : List Int) (bs : List Nat) (hbl : bs.length = (namesD (leftD A dirs)).length) (hnd : bs.Nodup) : Sim (crashA A dirs tails bs) (crashR R dirs tails) := by
  have hm : (withinOf dirs A.since.length).toNat = doneR R dirs := by unfold withinOf doneR; rw [h.chg]
  have hrep := h.dirs (doneR R dirs)
  have hT := hI.tidy (doneR R dirs)
  have hO := hI.ok (doneR R dirs)
  have hnm := hrep.names h.fl hT hO
  have hL : leftD A dirs = preD A (doneR R dirs) := by unfold leftD; rw [hm]
  rw [hL] at hbl
  have hX : crashA A dirs tails bs = { crashX A (preD A (doneR R dirs)) tails ((namesD (preD A (doneR R dirs))).zip bs) with sure := (crashX A (preD A (doneR R dirs)) tails ((namesD (preD A (doneR R dirs))).zip bs)).now } := by unfold crashA; rw [hL]
  have hCI := hI.crash (dirs := dirs) (tails := tails) (bs := bs) (by rw [hL]; exact hbl)
  generalize hLL : preD A (doneR R dirs) = L at hrep hT hO hnm hbl hX
  have hR : crashR R dirs tails = { emptyR with room := R.room, left := -1, files := (preR R (doneR R dirs)).map (fun d => cutR R tails d.2.toNat), dir := numb (preR R (doneR R dirs)), sure := numb (preR R (doneR R dirs)) } := rfl
  have hgood := h.good (doneR R dirs)
  generalize preR R (doneR R dirs) = D at hrep hnm hR hgood
  rw [hnm] at hbl hX
  rw [List.length_map] at hbl
  have hbi : ∀ i, i < D.length → i < bs.length := fun i hi => by omega
  obtain ⟨l, hl⟩ : ∃ l, l = (D.map nmL).zip bs := ⟨_, rfl⟩
  rw [← hl] at hX
  have hll : l.length = D.length := by rw [hl, List.length_zip, List.length_map]; omega
  have hget : ∀ i (hi : i < D.length), l[i]? = some (nmL D[i], bs[i]'(hbi i hi)) := fun i hi => by
    rw [hl, List.getElem?_zip_eq_some]
    exact ⟨by rw [List.getElem?_map, List.getElem?_eq_getElem hi]; rfl, List.getElem?_eq_getElem (hbi i hi)⟩
  have hn1 : (l.map Prod.fst).Nodup := by rw [hl, List.map_fst_zip (by rw [List.length_map]; omega)]; exact rise_nodup hrep.rise
  have hn2 : (l.map Prod.snd).Nodup := by rw [hl, List.map_snd_zip (by rw [List.length_map]; omega)]; exact hnd
  have hbase := crashX_base A L tails l (newA A.room) ⟨rfl, rfl, rfl, rfl, rfl, rfl⟩
  -- the file that a name of D has
  have hfo : ∀ i (hi : i < D.length), ∃ f, fileOf A L (nmL D[i]) = f ∧ f.sure ≤ f.data.length ∧ f.data.length ≤ 65536 ∧ f.num = D[i].2 ∧ 0 ≤ f.num ∧ fileR R f.num.toNat = filR f := fun i hi => by
    rcases hrep.look D[i].1 with ⟨h1, _⟩ | ⟨b, f, h1, h2, h3⟩
    · have := (hrep.mem h.fl D[i].1).2 ⟨D[i], List.getElem_mem hi, rfl⟩
      rw [h1] at this
      obtain ⟨b, hb⟩ := this; cases hb
    · obtain ⟨q1, q2⟩ := h.file b f h2
      have hs := hI.short b f h2
      refine ⟨f, ?_, hs.2, hs.1, ?_, q1, ?_⟩
      · unfold fileOf nmL; rw [bytes_back, h1]; simp [h2]
      · rw [← h3]; exact findR_mem D hrep.rise (List.getElem_mem hi)
      · unfold fileR; rw [List.getD_eq_getElem?_getD, q2]; rfl
  have hfile : ∀ i (hi : i < D.length), ∃ f, (crashA A dirs tails bs).file (bs[i]'(hbi i hi)) = some (crashedF f (tails.getD f.num.toNat 0) (i : Nat)) ∧ f.sure ≤ f.data.length ∧ f.data.length ≤ 65536 ∧ cutR R tails D[i].2.toNat = filR (crashedF f (tails.getD f.num.toNat 0) (i : Nat)) := fun i hi => by
    obtain ⟨f, e1, e2, e3, e4, e5, e6⟩ := hfo i hi
    have h9 := fold_at (A := A) (L := L) (tails := tails) l (newA A.room) 0 rfl hn2 i _ (hget i hi)
    rw [e1, Nat.zero_add] at h9
    refine ⟨f, by rw [hX]; exact h9, e2, e3, ?_⟩
    unfold cutR
    rw [← e4, e6]
    exact cut_filR f _ _ e2
  have hback : ∀ b f, (crashA A dirs tails bs).file b = some f → ∃ i, ∃ (hi : i < D.length), bs[i]'(hbi i hi) = b ∧ f.num = i ∧ f = crashedF (fileOf A L (nmL D[i])) (tails.getD (fileOf A L (nmL D[i])).num.toNat 0) (i : Nat) := fun b f hf => by
    rw [hX] at hf
    have hf' : (l.foldl (crashStep A L tails) (newA A.room)).file b = some f := hf
    by_cases hb : b ∈ l.map Prod.snd
    · obtain ⟨p, hp, hpe⟩ := List.mem_map.1 hb
      obtain ⟨i, hi, rfl⟩ := List.getElem_of_mem hp
      have hi' : i < D.length := by omega
      have hg := hget i hi'
      rw [List.getElem?_eq_getElem hi] at hg
      have hg := Option.some.inj hg
      have h9 := fold_at (A := A) (L := L) (tails := tails) l (newA A.room) 0 rfl hn2 i _ (List.getElem?_eq_getElem hi)
      rw [hpe, hf', Nat.zero_add, hg] at h9
      have h9 := Option.some.inj h9
      exact ⟨i, hi', by rw [← hpe, hg], by rw [h9]; rfl, h9⟩
    · rw [fold_file_other l _ hb] at hf'; cases hf'
  have hRl : (crashR R dirs tails).files.length = D.length := by rw [hR]; simp
  refine ⟨by rw [hX, hR]; exact (h.room.trans hbase.2.2.2.2.2.symm), by rw [hX, hR]; exact hbase.1.symm, ?_, by rw [hX, hR]; exact hbase.2.2.2.1.symm, ?_, ?_, ?_, ?_, ?_, ?_, ?_, ?_, ?_, ?_⟩
  · rw [hX, hR]
    show (-1 : Int) = if (crashX A L tails l).armed = true then _ else -1
    rw [show (crashX A L tails l).armed = false from hbase.2.1]; rfl
  · rw [hX]; show (crashX A L tails l).plan.length < 1000
    rw [show (crashX A L tails l).plan = [] from hbase.2.2.2.1]; show 0 < 1000; omega
  · rw [hRl, hX]
    have hM := Mid.fold (L := L) (tails := tails) (room := A.room) hI.short l (newA A.room) 0 (Mid.new A.room) fun p hp => by
      obtain ⟨i, hi, rfl⟩ := List.getElem_of_mem hp
      have hg := hget i (by omega)
      rw [List.getElem?_eq_getElem hi] at hg
      rw [Option.some.inj hg]
      have hmem : nmL D[i] ∈ namesD L := by rw [hnm]; exact List.mem_map.2 ⟨D[i], List.getElem_mem _, rfl⟩
      obtain ⟨_, _, _, _, h20⟩ := name_file hO hmem
      exact h20
    rw [Nat.zero_add, hll] at hM
    exact hM.created
  · intro b1 b2 f1 f2 h1 h2 he
    obtain ⟨i, hi, e1, e2, _⟩ := hback b1 f1 h1
    obtain ⟨j, hj, e3, e4, _⟩ := hback b2 f2 h2
    have : i = j := by omega
    subst this
    rw [← e1, ← e3]
  · intro b f hf
    obtain ⟨i, hi, e1, e2, e3⟩ := hback b f hf
    refine ⟨by omega, ?_⟩
    obtain ⟨f0, g1, _, _, g4⟩ := hfile i hi
    rw [e1, hf] at g1
    rw [e2, Int.toNat_natCast, hR]
    show (D.map fun d => cutR R tails d.2.toNat)[i]? = _
    rw [List.getElem?_map, List.getElem?_eq_getElem hi]
    show some (cutR R tails D[i].2.toNat) = _
    rw [g4, ← Option.some.inj g1]
  · intro x hx
    rw [hR] at hx
    have hx' : x ∈ D.map fun d => cutR R tails d.2.toNat := hx
    obtain ⟨d, hd, rfl⟩ := List.mem_map.1 hx'
    obtain ⟨i, hi, rfl⟩ := List.getElem_of_mem hd
    obtain ⟨f0, _, g2, g3, g4⟩ := hfile i hi
    rw [g4]
    have := leftN_le f0 (tails.getD f0.num.toNat 0) g2
    unfold filR crashedF
    simp only [strOfNums_size, List.length_take]
    omega
  · rw [hX, hR]; show (crashX A L tails l).since.length = 0
    rw [show (crashX A L tails l).since = [] from hbase.2.2.2.2.1]; rfl
  · intro c hc; rw [hR] at hc; cases hc
  · intro i
    have e1 : preD (crashA A dirs tails bs) i = (crashA A dirs tails bs).now := by
      unfold preD
      rw [show (crashA A dirs tails bs).since = [] by rw [hX]; exact hbase.2.2.2.2.1, show (crashA A dirs tails bs).sure = (crashA A dirs tails bs).now by rw [hX]]
      simp
    have e2 : preR (crashR R dirs tails) i = numb D := by rw [hR]; unfold preR; simp [emptyR]
    rw [e1, e2, hRl]
    refine ⟨numb_rise hrep.rise, fun x hx => ?_, fun s => ?_⟩
    · obtain ⟨j, hj, rfl⟩ := List.getElem_of_mem hx
      rw [numb_length] at hj
      have := numb_get D hj
      rw [List.getElem?_eq_getElem (by rw [numb_length]; exact hj)] at this
      rw [Option.some.inj this]
      show 0 ≤ (j : Int) ∧ (j : Int) < _
      omega
    · by_cases hs : ∃ x ∈ D, x.1 = s
      · obtain ⟨x, hx, rfl⟩ := hs
        obtain ⟨j, hj, rfl⟩ := List.getElem_of_mem hx
        obtain ⟨f0, g1, _, _, _⟩ := hfile j hj
        refine .inr ⟨_, _, ?_, g1, ?_⟩
        · have hz : (nmL D[j], bs[j]'(hbi j hj)) ∈ l := List.mem_of_getElem? (hget j hj)
          have hgg := (fold_get (A := A) (L := L) (tails := tails) l (newA A.room) Maps.isMap_empty hn1 hn2 hz).1
          unfold nmL at hgg
          rw [bytes_back] at hgg
          rw [hX]; exact hgg
        · have hmem : ((D[j]).1, (j : Int)) ∈ numb D := List.mem_of_getElem? (numb_get D hj)
          have := findR_mem (numb D) (numb_rise hrep.rise) hmem
          rw [this]; rfl
      · refine .inl ⟨?_, findR_none _ fun x hx e => ?_⟩
        · have hno : s.data.toList ∉ l.map Prod.fst := by
            rw [hl, List.map_fst_zip (by rw [List.length_map]; omega)]
            intro hm
            obtain ⟨x, hx, e⟩ := List.mem_map.1 hm
            exact hs ⟨x, hx, data_inj e⟩
          rw [hX]
          have := fold_get_other (A := A) (L := L) (tails := tails) l (newA A.room) hno
          rw [bytes_back] at this
          exact this
        · obtain ⟨j, hj, rfl⟩ := List.getElem_of_mem hx
          rw [numb_length] at hj
          have := numb_get D hj
          rw [List.getElem?_eq_getElem (by rw [numb_length]; exact hj)] at this
          rw [Option.some.inj this] at e
          exact hs ⟨D[j], List.getElem_mem _, e⟩
  · intro i x hx
    have e2 : preR (crashR R dirs tails) i = numb D := by rw [hR]; unfold preR; simp [emptyR]
    rw [e2] at hx
    obtain ⟨j, hj, rfl⟩ := List.getElem_of_mem hx
    rw [numb_length] at hj
    have := numb_get D hj
    rw [List.getElem?_eq_getElem (by rw [numb_length]; exact hj)] at this
    rw [Option.some.inj this]
    exact hgood D[j] (List.getElem_mem hj)
  · rw [hR]; unfold preR; simp [emptyR]
end Go.Proofs.Ytpfbiijcmmkjlaa
