/- Segments that are made one behind the other by calls that go well. Plain; nothing is walked. SeglogRows: what is made, and what is read of it. Plain; nothing is walked. SeglogRows: two rows of numbers beside a file system. Plain; nothing is walked. -/
import Derived.Test.YtigbgajelkknbaaGreatDoorSgL
namespace Go.Proofs.YtigbgajelkknbaaGreatDoor
open Go.RowKit Go.Maps Go.WideMaps
set_option maxRecDepth 100000

theorem dget_no {D : DataW Unit} {s : ByteArray} (h : Maps.has D (keyL s) = false) : dget D s = none := by
  unfold dget; rw [atKey_of_not_has h]
theorem tot_small (fl : Nat → Option Fil) (B : Nat) (hs : ∀ b f, fl b = some f → f.data.length ≤ B) (left : Lit → Bool) : ∀ es : List (Lit × DataW Unit), tot fl es left ≤ B * es.length
  | [] => by simp [tot]
  | p :: es => by
    have ih := tot_small fl B hs left es
    have hw : wt fl p.2 ≤ B := by
      unfold wt
      split
      · rename_i b _
        cases hf : fl b.toNat with
        | none => simp
        | some f => simpa using hs _ f hf
      · omega
    have : tot fl (p :: es) left ≤ wt fl p.2 + tot fl es left := by unfold tot; simp [List.filter_cons]; split <;> simp
    have hm : B * (p :: es).length = B * es.length + B := by rw [List.length_cons, Nat.mul_succ]
    omega
theorem used_small {A : FsA} {n B : Nat} (hI : Inv A n) (hs : ∀ b f, A.file b = some f → f.data.length ≤ B) : usedA A ≤ B * Maps.size A.now := by
  obtain ⟨es, he, _⟩ := hI.okNow
  unfold usedA
  rw [he, size_eq]
  show tot A.file es (fun _ => true) ≤ _
  exact tot_small A.file B hs _ es
/-- These segments, with these bytes, in the order in which they were made. -/
structure Segs (A : FsA) (n : Nat) (D : List (Int × List Int)) : Prop where
  inv : Inv A n
  by_ : ByA A
  calm : Calm A
  room : A.room = 30000
  size : Maps.size A.now = D.length
  lens : ∀ b f, A.file b = some f → f.data.length ≤ 60
  once : (D.map (·.1)).Nodup
  ids : ∀ p ∈ D, 1 ≤ p.1 ∧ p.1 ≤ 2147483647
  has : ∀ p ∈ D, ∃ b f, dget A.now (nameV p.1) = some b ∧ A.file b = some f ∧ f.data = p.2
  fresh : ∀ id, 1 ≤ id → id ≤ 2147483647 → (∀ p ∈ D, p.1 ≠ id) → Maps.has A.now (keyL (nameV id)) = false
  apart : ∀ p ∈ D, ∀ q ∈ D, p.1 ≠ q.1 → dget A.now (nameV p.1) ≠ dget A.now (nameV q.1)
theorem Segs.new : Segs (newA 30000) 0 [] :=
  ⟨Inv.new 30000 (by omega) (by omega), ByA.new _, ⟨rfl, rfl⟩, rfl, rfl, fun b f h => (by cases h), List.nodup_nil, fun p hp => (by cases hp), fun p hp => (by cases hp), fun _ _ _ _ => rfl, fun p hp => (by cases hp)⟩
section
variable {A : FsA} {n b : Nat} {D : List (Int × List Int)} {id : Int}
theorem Segs.create (h : Segs A n D) (h1 : 1 ≤ id) (h2 : id ≤ 2147483647) (hn : ∀ p ∈ D, p.1 ≠ id) (hl : D.length < 64) (hb : A.file b = none) :
    ∃ A', segCreateA A id b = (A', 0) ∧ Segs A' (n + 6) (D ++ [(id, [])]) := by
  have hs := nameB_nameV h1 h2
  have hab := h.fresh id h1 h2 hn
  have hcr := create_calm h.calm hs (dget_no hab) (by rw [h.size]; exact hl) b
  obtain ⟨A', hA'⟩ : ∃ A', A' = ({ changeA (setF { A with count := A.count + 1 } b ⟨A.created, [], 0⟩) (.create (nameV id) b) with created := A.created + 1 } : FsA) := ⟨_, rfl⟩
  have hseg : segCreateA A id b = ({ A' with count := A'.count + 1, sure := A'.now, since := [] }, 0) := by
    unfold segCreateA
    rw [codeN_ok h1 h2, if_pos rfl, hcr, if_pos rfl, ← hA', dir_calm ⟨by rw [hA']; exact h.calm.a, by rw [hA']; exact h.calm.p⟩]
  have hI := inv_segCreate h.inv id b
  have hB := h.by_.segCreate id b
  rw [hseg] at hI hB
  have hnow : A'.now = A.now.put (keyL (nameV id)) (.lit (.int .i64 (b : Nat))) := by rw [hA']; rfl
  have hfile : ∀ k, A'.file k = if k = b then some ⟨A.created, [], 0⟩ else A.file k := fun k => by rw [hA']; rfl
  have hT := h.inv.tidyNow
  have hne : ∀ p ∈ D, nameV p.1 ≠ nameV id := fun p hp e => hn p hp (nameV_inj (h.ids p hp).1 (h.ids p hp).2 h1 h2 e)
  refine ⟨_, hseg, ⟨hI, hB, ⟨by show A'.armed = false; rw [hA']; exact h.calm.a, by show A'.plan = []; rw [hA']; exact h.calm.p⟩, by show A'.room = _; rw [hA']; exact h.room, ?_, fun k f hf => ?_, ?_, fun p hp => ?_, fun p hp => ?_, fun j j1 j2 hj => ?_, fun p hp q hq hpq => ?_⟩⟩
  · show Maps.size A'.now = _
    rw [hnow, size_put hT, if_neg (by rw [hab]; simp), h.size, List.length_append]; rfl
  · have e : (if k = b then some (⟨A.created, [], 0⟩ : Fil) else A.file k) = some f := by rw [← hfile]; exact hf
    by_cases hk : k = b
    · rw [if_pos hk] at e; cases e; exact Nat.zero_le _
    · rw [if_neg hk] at e; exact h.lens k f e
  · rw [List.map_append, List.nodup_append]
    refine ⟨h.once, by simp, fun x hx y hy e => ?_⟩
    obtain ⟨p, hp, rfl⟩ := List.mem_map.1 hx
    simp only [List.map_cons, List.map_nil, List.mem_singleton] at hy
    exact hn p hp (e.trans hy)
  · rcases List.mem_append.1 hp with hp | hp
    · exact h.ids p hp
    · rw [List.mem_singleton] at hp; subst hp; exact ⟨h1, h2⟩
  · rcases List.mem_append.1 hp with hp | hp
    · obtain ⟨k, f, e1, e2, e3⟩ := h.has p hp
      refine ⟨k, f, ?_, ?_, e3⟩
      · show dget A'.now _ = _
        rw [hnow, dget_put_other (hne p hp)]; exact e1
      · show A'.file k = _
        rw [hfile, if_neg (fun e => by rw [e, hb] at e2; cases e2)]; exact e2
    · rw [List.mem_singleton] at hp; subst hp
      refine ⟨b, ⟨A.created, [], 0⟩, ?_, ?_, rfl⟩
      · show dget A'.now _ = _
        rw [hnow]; exact dget_put_same hT.isMap _ _
      · show A'.file b = _
        rw [hfile, if_pos rfl]
  · show Maps.has A'.now _ = _
    have hji : id ≠ j := hj (id, []) (by simp)
    rw [hnow, has_put_other (fun e => hji (nameV_inj h1 h2 j1 j2 (keyL_inj e).symm))]
    exact h.fresh j j1 j2 fun p hp => hj p (List.mem_append_left _ hp)
  · show dget A'.now _ ≠ dget A'.now _
    have key : ∀ p ∈ D, dget A'.now (nameV p.1) ≠ some b := fun p hp e => by
      obtain ⟨k, f, e1, e2, _⟩ := h.has p hp
      rw [hnow, dget_put_other (hne p hp), e1] at e
      cases e; rw [hb] at e2; cases e2
    have same : dget A'.now (nameV id) = some b := by rw [hnow]; exact dget_put_same hT.isMap _ _
    rcases List.mem_append.1 hp with hp | hp <;> rcases List.mem_append.1 hq with hq | hq
    · rw [hnow, dget_put_other (hne p hp), dget_put_other (hne q hq)]; exact h.apart p hp q hq hpq
    · rw [List.mem_singleton] at hq; subst hq
      rw [same]; exact key p hp
    · rw [List.mem_singleton] at hp; subst hp
      rw [same]; exact (key q hq).symm
    · rw [List.mem_singleton] at hp hq; subst hp hq; exact absurd rfl hpq
/-- Bytes behind those of the last one. -/
theorem Segs.put {data p : List Int} {A' : FsA} {m : Nat} (h : Segs A n (D ++ [(id, data)])) {f' : Fil} (hI : Inv A' m) (hB : ByA A') (hc : Calm A') (hr : A'.room = A.room) (hnow : A'.now = A.now) {b : Nat} (hd : dget A.now (nameV id) = some b)
    (hfile : ∀ k, A'.file k = if k = b then some f' else A.file k) (hf : f'.data = data ++ p) (hl : data.length + p.length ≤ 60) : Segs A' m (D ++ [(id, data ++ p)]) := by
  have mem : ∀ q, q ∈ D ++ [(id, data ++ p)] → ∃ q', q' ∈ D ++ [(id, data)] ∧ q'.1 = q.1 ∧ (q ∈ D ∧ q' = q ∨ q = (id, data ++ p) ∧ q' = (id, data)) := fun q hq => by
    rcases List.mem_append.1 hq with hq | hq
    · exact ⟨q, List.mem_append_left _ hq, rfl, .inl ⟨hq, rfl⟩⟩
    · rw [List.mem_singleton] at hq; subst hq
      exact ⟨(id, data), by simp, rfl, .inr ⟨rfl, rfl⟩⟩
  refine ⟨hI, hB, hc, by rw [hr]; exact h.room, by rw [hnow, h.size]; simp, fun k f hk => ?_, by have := h.once; simpa using this, fun q hq => ?_, fun q hq => ?_, fun j j1 j2 hj => ?_, fun q hq q' hq' hne => ?_⟩
  · rw [hfile] at hk
    by_cases e : k = b
    · rw [if_pos e] at hk; cases hk; rw [hf, List.length_append]; exact hl
    · rw [if_neg e] at hk; exact h.lens k f hk
  · obtain ⟨q', h1, h2, _⟩ := mem q hq
    rw [← h2]; exact h.ids q' h1
  · obtain ⟨q', h1, h2, h3⟩ := mem q hq
    obtain ⟨k, f, e1, e2, e3⟩ := h.has q' h1
    rcases h3 with ⟨h4, rfl⟩ | ⟨rfl, rfl⟩
    · by_cases hid : q'.1 = id
      · -- of one id there is one
        have ho := h.once
        rw [List.map_append, List.nodup_append] at ho
        exact absurd hid (ho.2.2 q'.1 (List.mem_map.2 ⟨q', h4, rfl⟩) id (by simp))
      · have hkb : k ≠ b := fun e => h.apart q' h1 (id, data) (by simp) hid (by rw [e1, e]; exact hd.symm)
        exact ⟨k, f, by rw [hnow]; exact e1, by rw [hfile, if_neg hkb]; exact e2, e3⟩
    · exact ⟨b, f', by rw [hnow]; exact hd, by rw [hfile, if_pos rfl], hf⟩
  · rw [hnow]
    refine h.fresh j j1 j2 fun q hq => ?_
    rcases List.mem_append.1 hq with hq | hq
    · exact hj q (List.mem_append_left _ hq)
    · rw [List.mem_singleton] at hq; subst hq
      exact hj (id, data ++ p) (by simp)
  · obtain ⟨x, h1, h2, _⟩ := mem q hq
    obtain ⟨y, k1, k2, _⟩ := mem q' hq'
    rw [hnow, ← h2, ← k2]
    exact h.apart x h1 y k1 (by rw [h2, k2]; exact hne)
theorem Segs.append {data p : List Int} {k : Int} (h : Segs A n (D ++ [(id, data)])) (k1 : 1 ≤ k) (k2 : k ≤ 9) (hy : Fr.Byt p) (hl : data.length + p.length + 9 ≤ 60) (hD : D.length < 64) :
    ∃ A', segAppendA A id k p = (A', 0) ∧ Segs A' (n + 6) (D ++ [(id, data ++ Fr.frameI k p)]) := by
  obtain ⟨i1, i2⟩ := h.ids (id, data) (by simp)
  simp only at i1 i2
  obtain ⟨b, f, e1, e2, e3⟩ := h.has (id, data) (by simp)
  simp only at e1 e3
  have hs := nameB_nameV i1 i2
  have hfl := Fr.frameI_length k p
  have hu := used_small h.inv h.lens
  have hz := h.size
  rw [List.length_append] at hz
  have hec : encC k p.length = 0 := by unfold encC; rw [if_pos ⟨k1, k2⟩, if_pos (by omega)]
  have happ := append_calm h.calm (p := Fr.frameI k p) hs e1 e2 (by rw [e3]; omega) (by rw [h.room, hfl]; simp at hz; omega)
  obtain ⟨A1, hA1⟩ : ∃ A1, A1 = setF { A with count := A.count + 1 } b { f with data := f.data ++ Fr.frameI k p } := ⟨_, rfl⟩
  rw [← hA1] at happ
  have c1 : Calm A1 := ⟨by rw [hA1]; exact h.calm.a, by rw [hA1]; exact h.calm.p⟩
  have d1 : dget A1.now (nameV id) = some b := by rw [hA1]; exact e1
  have f1 : ∀ x, A1.file x = if x = b then some { f with data := f.data ++ Fr.frameI k p } else A.file x := fun x => by rw [hA1]; rfl
  have hsy := sync_calm c1 hs d1 (by rw [f1, if_pos rfl])
  obtain ⟨A2, hA2⟩ : ∃ A2, A2 = setF { A1 with count := A1.count + 1 } b { f with data := f.data ++ Fr.frameI k p, sure := (f.data ++ Fr.frameI k p).length } := ⟨_, rfl⟩
  have hseg : segAppendA A id k p = (A2, 0) := by
    unfold segAppendA
    rw [codeN_ok i1 i2, if_pos rfl, hec, if_pos rfl, happ, if_pos rfl, hsy, hA2]
  have hI := inv_segAppend h.inv id k p
  have hB := h.by_.segAppend id (k := k) hy
  rw [hseg] at hI hB
  refine ⟨A2, hseg, h.put (f' := { f with data := f.data ++ Fr.frameI k p, sure := (f.data ++ Fr.frameI k p).length }) hI hB ⟨by rw [hA2]; exact c1.a, by rw [hA2]; exact c1.p⟩ (by rw [hA2, hA1]; rfl) (by rw [hA2, hA1]; rfl) e1 (fun x => ?_) (by show f.data ++ _ = _; rw [e3]) (by rw [hfl]; omega)⟩
  rw [hA2]
  show (if x = b then _ else A1.file x) = _
  by_cases hx : x = b
  · rw [if_pos hx, if_pos hx]
  · rw [if_neg hx, if_neg hx, f1, if_neg hx]
theorem Segs.read (h : Segs A n D) {p : Int × List Int} (hp : p ∈ D) : readA A (nameV p.1) = (p.2, 0) := by
  obtain ⟨b, f, e1, e2, e3⟩ := h.has p hp
  obtain ⟨i1, i2⟩ := h.ids p hp
  unfold readA
  rw [findA_some (nameB_nameV i1 i2) e1, if_pos rfl]
  simp [e2, e3]
/-- 'Append' to the last one's file. -/
theorem Segs.raw {data p : List Int} (h : Segs A n (D ++ [(id, data)])) (hl : data.length + p.length ≤ 400) (hd60 : data.length ≤ 60) (hD : D.length < 64) :
    ∃ A', appendA A (nameV id) p = (A', 0) ∧ (∀ q ∈ D, readA A' (nameV q.1) = (q.2, 0)) ∧ readA A' (nameV id) = (data ++ p, 0) := by
  obtain ⟨i1, i2⟩ := h.ids (id, data) (by simp)
  simp only at i1 i2
  obtain ⟨b, f, e1, e2, e3⟩ := h.has (id, data) (by simp)
  simp only at e1 e3
  have hs := nameB_nameV i1 i2
  have hu := used_small h.inv h.lens
  have hz := h.size
  rw [List.length_append] at hz
  have happ := append_calm h.calm (p := p) hs e1 e2 (by rw [e3]; omega) (by rw [h.room]; simp at hz; omega)
  obtain ⟨A2, hA2⟩ : ∃ A2, A2 = setF { A with count := A.count + 1 } b { f with data := f.data ++ p } := ⟨_, rfl⟩
  rw [← hA2] at happ
  have hnow : A2.now = A.now := by rw [hA2]; rfl
  have hfile : ∀ k, A2.file k = if k = b then some { f with data := f.data ++ p } else A.file k := fun k => by rw [hA2]; rfl
  refine ⟨A2, happ, fun q hq => ?_, ?_⟩
  · obtain ⟨k, g, k1, k2, k3⟩ := h.has q (List.mem_append_left _ hq)
    obtain ⟨j1, j2⟩ := h.ids q (List.mem_append_left _ hq)
    have ho := h.once
    rw [List.map_append, List.nodup_append] at ho
    have hne : q.1 ≠ id := ho.2.2 q.1 (List.mem_map.2 ⟨q, hq, rfl⟩) id (by simp)
    have hkb : k ≠ b := fun e => h.apart q (List.mem_append_left _ hq) (id, data) (by simp) hne (by rw [k1, e]; exact e1.symm)
    unfold readA
    rw [findA_some (A := A2) (nameB_nameV j1 j2) (by rw [hnow]; exact k1), if_pos rfl]
    simp [hfile, hkb, k2, k3]
  · unfold readA
    rw [findA_some (A := A2) hs (by rw [hnow]; exact e1), if_pos rfl]
    simp [hfile, e3]
end
end Go.Proofs.YtigbgajelkknbaaGreatDoor
namespace Go.Proofs.YtigbgajelkknbaaGreatDoor
open Go.RowKit Go.Maps Go.WideMaps
set_option maxRecDepth 100000

/-- The bytes of these frames. -/
def rowG (l : List (Int × List Int)) : List Int := l.flatMap fun t => Fr.frameI t.1 t.2
theorem rowG_append (a b : List (Int × List Int)) : rowG (a ++ b) = rowG a ++ rowG b := by unfold rowG; rw [List.flatMap_append]
theorem rowG_one (k : Int) (p : List Int) : rowG [(k, p)] = Fr.frameI k p := by unfold rowG; simp
/-- They may be written. -/
def FitG (l : List (Int × List Int)) : Prop := ∀ t ∈ l, 1 ≤ t.1 ∧ t.1 ≤ 9 ∧ Fr.Byt t.2 ∧ t.2.length ≤ 8192
theorem rowG_byt : ∀ {l : List (Int × List Int)}, FitG l → Fr.Byt (rowG l)
  | [], _ => Fr.Byt.nil
  | t :: l, h => by
    have e : rowG (t :: l) = Fr.frameI t.1 t.2 ++ rowG l := by unfold rowG; rw [List.flatMap_cons]
    have h0 := h t (by simp)
    rw [e]
    exact (Fr.frameI_byt h0.1 h0.2.1 h0.2.2.1).append (rowG_byt fun x hx => h x (by simp [hx]))
theorem scan_rowG : ∀ {l : List (Int × List Int)} {x : List Int} {fs : List (Int × List Int)} {m : Nat}, FitG l → Fr.Byt x → Fr.Scanned x fs m → Fr.Scanned (rowG l ++ x) (l ++ fs) ((rowG l).length + m)
  | [], x, fs, m, _, _, hs => by simpa [rowG] using hs
  | t :: l, x, fs, m, h, hx, hs => by
    have e : rowG (t :: l) = Fr.frameI t.1 t.2 ++ rowG l := by unfold rowG; rw [List.flatMap_cons]
    have h0 := h t (by simp)
    have hl : FitG l := fun y hy => h y (by simp [hy])
    have ih := scan_rowG hl hx hs
    have hn := Fr.nextF_frame (x := rowG l ++ x) h0.1 h0.2.1 h0.2.2.1 h0.2.2.2 ((rowG_byt hl).append hx)
    rw [e, List.append_assoc, List.cons_append, List.length_append, Fr.frameI_length, Nat.add_assoc]
    refine Fr.Scanned.step hn ?_
    rw [List.drop_append_of_le_length (by rw [Fr.frameI_length]; exact Nat.le_refl _), List.drop_of_length_le (by rw [Fr.frameI_length]; exact Nat.le_refl _)]
    exact ih
theorem scan_row {l : List (Int × List Int)} (h : FitG l) : Fr.Scanned (rowG l) l (rowG l).length := by
  have := scan_rowG h Fr.Byt.nil (.stop (Fr.nextF_short (.inl (by simp))))
  simpa using this
/-- What is read of segments whose fronts are known. -/
theorem reads_det {A : FsA} {F : Int → List (Int × List Int)} {ids : List Int} {es : List (Int × Int × List Int)} {b : Bool} (h : ReadsA A ids es b) :
    (∀ id ∈ ids, ∃ m, Fr.Scanned (readA A (nameV id)).1 (F id) m) → es = ids.flatMap fun id => idF id (F id) := by
  induction h with
  | nil => intro _; rfl
  | snoc _ _ h3 ih =>
    intro hF
    rw [ih fun id hid => hF id (List.mem_append_left _ hid), List.flatMap_append]
    obtain ⟨m, hm⟩ := hF _ (List.mem_append_right _ (List.mem_singleton_self _))
    obtain ⟨rfl, _⟩ := h3.same hm
    simp
theorem reads_last {A : FsA} {ids : List Int} {id : Int} {es : List (Int × Int × List Int)} {b : Bool} {fs : List (Int × List Int)} {m : Nat} (h : ReadsA A (ids ++ [id]) es b) (hs : Fr.Scanned (readA A (nameV id)).1 fs m) :
    b = decide (m = (readA A (nameV id)).1.length) := by
  rcases h.inv with ⟨h0, _⟩ | ⟨ids', es0, b0, id', fs', m', he, _, _, h3, _, h5⟩
  · simp at h0
  · obtain ⟨_, e2⟩ := List.append_inj' he rfl
    cases e2
    obtain ⟨_, rfl⟩ := hs.same h3
    exact h5
/-- How many frames the t-th segment has. -/
def cntR (cs : List Int) (t : Nat) : Nat := (cs.getD t 0 % 5).toNat
theorem cntR_le (cs : List Int) (t : Nat) : cntR cs t ≤ 4 := by unfold cntR; omega
def frR (t K : Nat) : List (Int × List Int) := (List.range K).map fun (k : Nat) => ((1 + (k : Int)), [(t : Int), (k : Int)])
theorem frR_succ (t K : Nat) : frR t (K + 1) = frR t K ++ [((1 + (K : Int)), [(t : Int), (K : Int)])] := by unfold frR; rw [List.range_succ, List.map_append]; rfl
theorem frR_fit {t K : Nat} (ht : t ≤ 8) (hK : K ≤ 4) : FitG (frR t K) := fun x hx => by
  obtain ⟨k, hk, rfl⟩ := List.mem_map.1 hx
  have := List.mem_range.1 hk
  refine ⟨by show (1 : Int) ≤ 1 + k; omega, by show (1 : Int) + k ≤ 9; omega, fun z hz => ?_, by simp⟩
  simp only [List.mem_cons, List.not_mem_nil, or_false] at hz
  rcases hz with rfl | rfl
  · omega
  · omega
theorem rowR_length (t : Nat) : ∀ K, (rowG (frR t K)).length = 11 * K
  | 0 => rfl
  | K + 1 => by rw [frR_succ, rowG_append, List.length_append, rowR_length t K, rowG_one, Fr.frameI_length]; simp; omega
theorem rowR_succ (t K : Nat) : rowG (frR t (K + 1)) = rowG (frR t K) ++ Fr.frameI (1 + K) [(t : Int), (K : Int)] := by rw [frR_succ, rowG_append, rowG_one]
def idR (t : Nat) : Int := 3 * (t : Int) + 1
def idsR (i : Nat) : List Int := (List.range i).map idR
def segD (cs : List Int) (i : Nat) : List (Int × List Int) := (List.range i).map fun t => (idR t, rowG (frR t (cntR cs t)))
theorem segD_succ (cs : List Int) (i : Nat) : segD cs (i + 1) = segD cs i ++ [(idR i, rowG (frR i (cntR cs i)))] := by unfold segD; rw [List.range_succ, List.map_append]; rfl
theorem idsR_succ (i : Nat) : idsR (i + 1) = idsR i ++ [idR i] := by unfold idsR; rw [List.range_succ, List.map_append]; rfl
theorem idsR_length (i : Nat) : (idsR i).length = i := by unfold idsR; simp
theorem segD_length (cs : List Int) (i : Nat) : (segD cs i).length = i := by unfold segD; simp
theorem segD_ne (cs : List Int) (i : Nat) : ∀ p ∈ segD cs i, p.1 ≠ idR i := fun p hp => by
  obtain ⟨t, ht, rfl⟩ := List.mem_map.1 hp
  have := List.mem_range.1 ht
  show idR t ≠ idR i
  unfold idR; omega
/-- The frames of the segment with this id. -/
def frI (cs : List Int) (id : Int) : List (Int × List Int) := frR ((id - 1) / 3).toNat (cntR cs ((id - 1) / 3).toNat)
theorem frI_id (cs : List Int) (t : Nat) : frI cs (idR t) = frR t (cntR cs t) := by
  unfold frI idR
  rw [show ((3 * (t : Int) + 1 - 1) / 3).toNat = t by omega]
/-- All entries of the first i segments. -/
def entR (cs : List Int) (i : Nat) : List (Int × Int × List Int) := (List.range i).flatMap fun t => idF (idR t) (frR t (cntR cs t))
theorem entR_succ (cs : List Int) (i : Nat) : entR cs (i + 1) = entR cs i ++ idF (idR i) (frR i (cntR cs i)) := by unfold entR; rw [List.range_succ, List.flatMap_append]; simp
theorem entR_ids (cs : List Int) (i : Nat) : ((idsR i).flatMap fun id => idF id (frI cs id)) = entR cs i := by
  unfold idsR entR
  rw [List.flatMap_map]
  congr 1
  funext t
  rw [frI_id]
theorem idF_length (id : Int) (fs : List (Int × List Int)) : (idF id fs).length = fs.length := by unfold idF; simp
theorem entR_le (cs : List Int) : ∀ i, (entR cs i).length ≤ 4 * i
  | 0 => Nat.le_refl _
  | i + 1 => by
    have h := entR_le cs i
    have h2 := cntR_le cs i
    rw [entR_succ, List.length_append, idF_length]
    unfold frR
    simp only [List.length_map, List.length_range]; omega
/-- What holds of each entry. -/
theorem entR_each (cs : List Int) (i : Nat) : ∀ x ∈ entR cs i, ∃ t k : Nat, x = (idR t, 1 + (k : Int), [(t : Int), (k : Int)]) ∧ k ≤ 3 := fun x hx => by
  obtain ⟨t, _, hx⟩ := List.mem_flatMap.1 hx
  obtain ⟨y, hy, rfl⟩ := List.mem_map.1 hx
  obtain ⟨k, hk, rfl⟩ := List.mem_map.1 hy
  have := List.mem_range.1 hk
  have := cntR_le cs t
  exact ⟨t, k, rfl, by omega⟩
/-- Something that is no frame's beginning. -/
theorem junk_none {tail : List Int} : Fr.nextF ([255, 255, 255, 255] ++ tail) = none ∨ 4294967295 ≤ (tail.length : Int) := by
  by_cases h : 4294967295 ≤ (tail.length : Int)
  · exact .inr h
  · refine .inl (Fr.nextF_short (.inr ?_))
    have e : Fr.numI ([255, 255, 255, 255] ++ tail) = 4294967295 := by rw [Fr.numI_is]; simp
    rw [e, List.length_append]
    simp only [List.length_cons, List.length_nil]; omega
/-- What is read of the segments. -/
theorem segs_read {A : FsA} {n : Nat} {cs : List Int} {i : Nat} (h : Segs A n (segD cs i)) (hi : i ≤ 8) {es : List (Int × Int × List Int)} {b : Bool} (hr : ReadsA A (idsR i) es b) : es = entR cs i ∧ b = true := by
  have hF : ∀ t, t < i → Fr.Scanned (readA A (nameV (idR t))).1 (frI cs (idR t)) (readA A (nameV (idR t))).1.length := fun t ht => by
    have := h.read (p := (idR t, rowG (frR t (cntR cs t)))) (List.mem_map.2 ⟨t, List.mem_range.2 ht, rfl⟩)
    rw [this, frI_id]
    exact scan_row (frR_fit (by omega) (cntR_le cs t))
  refine ⟨?_, ?_⟩
  · rw [reads_det (F := frI cs) hr fun id hid => ?_, entR_ids]
    obtain ⟨t, ht, rfl⟩ := List.mem_map.1 hid
    exact ⟨_, hF t (List.mem_range.1 ht)⟩
  · cases i with
    | zero =>
      rcases hr.inv with ⟨_, _, h⟩ | ⟨ids, _, _, id, _, _, he, _⟩
      · exact h
      · simp [idsR] at he
    | succ i =>
      rw [idsR_succ] at hr
      rw [reads_last hr (hF i (by omega))]; simp
/-- What is read with something behind the last one. -/
theorem segs_again {A' : FsA} {cs tail : List Int} {i : Nat} (hi : i < 8) (hx : Fr.Byt tail) (ht : (tail.length : Int) < 4294967295)
    (h1 : ∀ q ∈ segD cs i, readA A' (nameV q.1) = (q.2, 0)) (h2 : readA A' (nameV (idR i)) = (rowG (frR i (cntR cs i)) ++ ([255, 255, 255, 255] ++ tail), 0)) {es : List (Int × Int × List Int)} {b : Bool} (hr : ReadsA A' (idsR (i + 1)) es b) :
    es = entR cs (i + 1) ∧ b = false := by
  have hj : Fr.Scanned ([255, 255, 255, 255] ++ tail) [] 0 := .stop (junk_none.resolve_right (by omega))
  have hy : Fr.Byt ([255, 255, 255, 255] ++ tail) := Fr.Byt.append (fun z hz => by
    simp only [List.mem_cons, List.not_mem_nil, or_false] at hz
    rcases hz with rfl | rfl | rfl | rfl <;> omega) hx
  have hl : Fr.Scanned (readA A' (nameV (idR i))).1 (frI cs (idR i)) (rowG (frR i (cntR cs i))).length := by
    rw [h2, frI_id]
    have := scan_rowG (frR_fit (show i ≤ 8 by omega) (cntR_le cs i)) hy hj
    simpa using this
  refine ⟨?_, ?_⟩
  · rw [reads_det (F := frI cs) hr fun id hid => ?_, entR_ids]
    obtain ⟨t, htt, rfl⟩ := List.mem_map.1 hid
    have := List.mem_range.1 htt
    by_cases e : t = i
    · rw [e]; exact ⟨_, hl⟩
    · have := h1 (idR t, rowG (frR t (cntR cs t))) (List.mem_map.2 ⟨t, List.mem_range.2 (by omega), rfl⟩)
      rw [this, frI_id]
      exact ⟨_, scan_row (frR_fit (by omega) (cntR_le cs t))⟩
  · rw [idsR_succ] at hr
    rw [reads_last hr hl, h2]
    simp
end Go.Proofs.YtigbgajelkknbaaGreatDoor
namespace Go.Proofs.YtigbgajelkknbaaGreatDoor
open Go.RowKit
set_option maxRecDepth 100000

/-- Numbers in a row of one's own. -/
def RowI (w : World) (base : Nat) (v : Value) (ys : List Int) : Prop := w.ownsRow base 3 1 v ys.length (ys.map (Value.int .i64))
theorem intInfo4 : (Tryz.prog.info? 3).map (fun i => (i.zero, i.size, i.bytes)) = some (some (.int .i64 0), 1, 8) := by kernel_rfl
theorem RowI.ints {w : World} {base : Nat} {v : Value} {ys : List Int} (h : RowI w base v ys) : Ints w v ys := by
  rcases h.2 with ⟨rfl, h0⟩ | ⟨x, cap, cur, rfl, _, hh, h1, h2, h3, h4⟩
  · exact .inl ⟨rfl, List.length_eq_zero_iff.1 h0⟩
  · refine .inr ⟨x, 0, cap, rfl, heap_lt hh, fun j u hu => ?_⟩
    have hj : j < ys.length := by have := (List.getElem?_eq_some_iff.1 hu).1; simpa using this
    rw [← h4, List.getElem?_take_of_lt (by omega)] at hu
    rw [Nat.zero_add, cell_of_row w x j cur _ _ hh, ← Array.getElem?_toList]; exact hu
theorem PF.grow' {w0 w1 w2 : World} {g : Nat} {S : Nat → Prop} {A : FsA} {x : Option Nat} (h : PF w0 w1 g S A) (hg : w1.grownBy w2 x) (hx : ∀ k, x = some k → ¬ S k ∧ w0.heap.size ≤ k) : PF w0 w2 g S A :=
  ⟨h.fs.to (fun _ h => h) fun k hk hlt => hg.block k hlt fun e => (hx k e.symm).1 hk, fun k hk => ⟨(h.lo k hk).1, Nat.lt_of_lt_of_le (h.lo k hk).2 hg.size⟩,
    h.base.grown hg h.base.size fun k hk => (hx k hk).2⟩
/-- What stands while segments are made. -/
structure RowsI (w0 w : World) (g : Nat) (S : Nat → Prop) (A : FsA) (n : Nat) (D : List (Int × List Int)) (v7 v8 : Value) (ids want : List Int) : Prop where
  pf : PF w0 w g S A
  seg : Segs A n D
  r7 : RowI w w0.heap.size v7 ids
  r8 : RowI w w0.heap.size v8 want
  a7 : ∀ k, v7.ownBlock = some k → ¬ S k ∧ v8.ownBlock ≠ some k
  a8 : ∀ k, v8.ownBlock = some k → ¬ S k
section
variable {w0 w w' : World} {g n n' : Nat} {S S' : Nat → Prop} {A A' : FsA} {D D' : List (Int × List Int)} {v7 v8 v' : Value} {ids want : List Int} {x : Int}
theorem RowsI.call (h : RowsI w0 w g S A n D v7 v8 ids want) (hp : PF w0 w' g S' A') (ha : Adv S S' w w') (hs : Segs A' n' D') : RowsI w0 w' g S' A' n' D' v7 v8 ids want :=
  ⟨hp, hs, own_stay h.r7 fun k hk e => (ha.block hk (h.a7 k e).1).1, own_stay h.r8 fun k hk e => (ha.block hk (h.a8 k e)).1,
    fun k e => ⟨(ha.block (h.r7.lt k e).2 (h.a7 k e).1).2, (h.a7 k e).2⟩, fun k e => (ha.block (h.r8.lt k e).2 (h.a8 k e)).2⟩
theorem Segs.mono (h : Segs A n D) (hn : n ≤ n') : Segs A n' D := ⟨h.inv.mono hn, h.by_, h.calm, h.room, h.size, h.lens, h.once, h.ids, h.has, h.fresh, h.apart⟩
theorem RowsI.mono (h : RowsI w0 w g S A n D v7 v8 ids want) (hn : n ≤ n') : RowsI w0 w g S A n' D v7 v8 ids want := ⟨h.pf, h.seg.mono hn, h.r7, h.r8, h.a7, h.a8⟩
theorem RowsI.below (h : RowsI w0 w g S A n D v7 v8 ids want) (hb : Below w.heap.size w w') : RowsI w0 w' g S A n D v7 v8 ids want :=
  ⟨h.pf.below hb, h.seg, own_stay h.r7 fun k hk _ => hb.block k hk, own_stay h.r8 fun k hk _ => hb.block k hk, h.a7, h.a8⟩
theorem RowsI.app7 (h : RowsI w0 w g S A n D v7 v8 ids want) (ho : w'.ownsRow w0.heap.size 3 1 v' (ids.length + 1) (ids.map (Value.int .i64) ++ [.int .i64 x])) (hg : w.grownBy w' v7.ownBlock)
    (hl : v'.ownBlock = v7.ownBlock ∨ ∀ k, v'.ownBlock = some k → w.heap.size ≤ k) : RowsI w0 w' g S A n D v' v8 (ids ++ [x]) want := by
  refine ⟨h.pf.grow' hg fun k e => ⟨(h.a7 k e).1, (h.r7.lt k e).1⟩, h.seg, by unfold RowI; rw [List.length_append, List.map_append]; exact ho,
    own_stay h.r8 fun k hk e => hg.block k hk fun e2 => (h.a7 k e2.symm).2 e, fun k e => ?_, h.a8⟩
  rcases hl with hl | hl
  · rw [hl] at e; exact h.a7 k e
  · have hk := hl k e
    exact ⟨fun hS => by have := (h.pf.lo k hS).2; omega, fun e2 => by have := (h.r8.lt k e2).2; omega⟩
theorem RowsI.app8 (h : RowsI w0 w g S A n D v7 v8 ids want) (ho : w'.ownsRow w0.heap.size 3 1 v' (want.length + 1) (want.map (Value.int .i64) ++ [.int .i64 x])) (hg : w.grownBy w' v8.ownBlock)
    (hl : v'.ownBlock = v8.ownBlock ∨ ∀ k, v'.ownBlock = some k → w.heap.size ≤ k) : RowsI w0 w' g S A n D v7 v' ids (want ++ [x]) := by
  refine ⟨h.pf.grow' hg fun k e => ⟨h.a8 k e, (h.r8.lt k e).1⟩, h.seg, own_stay h.r7 fun k hk e => hg.block k hk fun e2 => (h.a7 k e).2 e2.symm,
    by unfold RowI; rw [List.length_append, List.map_append]; exact ho, fun k e => ⟨(h.a7 k e).1, fun e2 => ?_⟩, fun k e hS => ?_⟩
  · rcases hl with hl | hl
    · rw [hl] at e2; exact (h.a7 k e).2 e2
    · have := hl k e2; have := (h.r7.lt k e).2; omega
  · rcases hl with hl | hl
    · rw [hl] at e; exact h.a8 k e hS
    · have := hl k e; have := (h.pf.lo k hS).2; omega
end
/-- Two bytes as the one part. -/
theorem two_parts (w : World) (x y : Int) {m m' : Nat × Nat} : Fr.Parts ((w.alloc (.cells #[.int .u8 x, .int .u8 y] 5 m)).alloc (.cells #[.slice (some ⟨w.heap.size, 0, none⟩) 2 2] 37 m')) (.slice (some ⟨w.heap.size + 1, 0, none⟩) 1 1) [[x, y]] := by
  have e1 : ((w.alloc (.cells #[.int .u8 x, .int .u8 y] 5 m)).alloc (.cells #[.slice (some ⟨w.heap.size, 0, none⟩) 2 2] 37 m')).heap[w.heap.size + 1]? = some (.cells #[.slice (some ⟨w.heap.size, 0, none⟩) 2 2] 37 m') := by
    have := heap_alloc_new (w.alloc (.cells #[.int .u8 x, .int .u8 y] 5 m)) (.cells #[.slice (some ⟨w.heap.size, 0, none⟩) 2 2] 37 m')
    rwa [World.size_alloc] at this
  have e2 : ((w.alloc (.cells #[.int .u8 x, .int .u8 y] 5 m)).alloc (.cells #[.slice (some ⟨w.heap.size, 0, none⟩) 2 2] 37 m')).heap[w.heap.size]? = some (.cells #[.int .u8 x, .int .u8 y] 5 m) := by
    rw [Below.heap_alloc _ _ _ (by simp)]
    exact heap_alloc_new w _
  refine .inr ⟨w.heap.size + 1, 0, 1, rfl, heap_lt e1, fun i hi => ?_⟩
  have h0 : i = 0 := by simpa using hi
  subst h0
  refine ⟨_, cell_of_row _ _ 0 _ _ _ e1, .inl (.inr ⟨w.heap.size, 0, 2, rfl, Nat.le_refl _, heap_lt e2, fun j u hu => ?_⟩)⟩
  rw [Nat.zero_add, cell_of_row _ _ j _ _ _ e2]; simpa using hu
theorem bytes_cells {w : World} {a : Option Addr} {c : Nat} {p : List Int} (h : Fr.Bytes w (.slice a p.length c) p) (hp : 0 < p.length) :
    ∃ pb po, a = some ⟨pb, po, none⟩ ∧ pb < w.heap.size ∧ ∀ i, i < p.length → w.cell? ⟨pb, po + i, none⟩ = some (.int .u8 (p.getD i 0)) := by
  rcases h with ⟨_, rfl⟩ | ⟨pb, po, cap, hv, _, hb, hr⟩
  · simp at hp
  · cases hv
    exact ⟨pb, po, rfl, hb, fun i hi => hr i _ (by rw [List.getElem?_map, List.getD_eq_getElem?_getD, List.getElem?_eq_getElem hi]; rfl)⟩
end Go.Proofs.YtigbgajelkknbaaGreatDoor
