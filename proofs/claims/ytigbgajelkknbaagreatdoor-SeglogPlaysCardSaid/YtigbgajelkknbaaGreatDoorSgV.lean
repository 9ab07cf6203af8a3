/- SeglogKeeps: one segment behind a crash: what was made sure stands; of what was not, a front. Plain; nothing is walked. -/
import Derived.Test.YtigbgajelkknbaaGreatDoorSgS
namespace Go.Proofs.YtigbgajelkknbaaGreatDoor
open Go.RowKit Go.Maps Go.WideMaps
set_option maxRecDepth 100000

/-- These payloads, each of kind 1. -/
def onesG (ps : List (List Int)) : List (Int × List Int) := ps.map fun p => (1, p)
theorem onesG_append (ps : List (List Int)) (p : List Int) : onesG (ps ++ [p]) = onesG ps ++ [(1, p)] := by unfold onesG; rw [List.map_append]; rfl
/-- What stands behind them: nothing, or a front of a frame. -/
def TornX (t : Option (List Int)) (x : List Int) : Prop := match t with
  | none => x = []
  | some p => ∃ q, x = (Fr.frameI 1 p).take q
theorem TornX.take {t : Option (List Int)} {x : List Int} (h : TornX t x) (m : Nat) : TornX t (x.take m) := by
  cases t with
  | none =>
    have h0 : x = [] := h
    show x.take m = []
    rw [h0, List.take_nil]
  | some p =>
    obtain ⟨q, hq⟩ := h
    exact ⟨min m q, by rw [hq, List.take_take]⟩
/-- The one segment, and what was made sure in it. -/
structure KeptI (A : FsA) (b : Nat) (ps : List (List Int)) (t : Option (List Int)) : Prop where
  now : A.now = oneD (nameV 7) b
  sure : A.sure = oneD (nameV 7) b
  since : A.since = []
  file : ∃ (f : Fil) (x : List Int), A.file b = some f ∧ f.data = rowG (onesG ps) ++ x ∧ TornX t x ∧ f.sure = (rowG (onesG ps)).length
section
variable {A B : FsA} {b n : Nat} {ps : List (List Int)} {t : Option (List Int)}
theorem name7 : nameB (nameV 7) = true := nameB_nameV (by omega) (by omega)
theorem KeptI.get (h : KeptI A b ps t) : dget A.now (nameV 7) = some b := by rw [h.now]; exact one_get _ _
theorem KeptI.same (h : KeptI A b ps t) (h1 : B.now = A.now) (h2 : B.sure = A.sure) (h3 : B.since = A.since) (h4 : B.file = A.file) : KeptI B b ps t :=
  ⟨h1.trans h.now, h2.trans h.sure, h3.trans h.since, by rw [h4]; exact h.file⟩
theorem KeptI.append (h : KeptI A b ps none) {p : List Int} (hp : p.length ≤ 8192) :
    ((segAppendA A 7 1 p).2 = 0 ∧ KeptI (segAppendA A 7 1 p).1 b (ps ++ [p]) none) ∨ ((segAppendA A 7 1 p).2 ≠ 0 ∧ KeptI (segAppendA A 7 1 p).1 b ps (some p)) := by
  obtain ⟨f, x, hf, hd, hx, hsu⟩ := h.file
  obtain rfl : x = [] := hx
  rw [List.append_nil] at hd
  have hrow : rowG (onesG (ps ++ [p])) = rowG (onesG ps) ++ Fr.frameI 1 p := by rw [onesG_append, rowG_append, rowG_one]
  obtain ⟨fr, hfr⟩ : ∃ fr, fr = Fr.frameI 1 p := ⟨_, rfl⟩
  have hec : encC 1 p.length = 0 := by unfold encC; rw [if_pos ⟨by omega, by omega⟩, if_pos hp]
  have hap : appendA A (nameV 7) fr = putA A b f fr := by
    unfold appendA
    rw [findA_some name7 h.get]
    simp only [hf]
  have hseg : segAppendA A 7 1 p = if (putA A b f fr).2 = 0 then syncA (putA A b f fr).1 (nameV 7) else putA A b f fr := by
    unfold segAppendA
    rw [codeN_ok (by omega) (by omega), if_pos rfl, hec, if_pos rfl, ← hfr, hap]
  rw [hseg]
  obtain ⟨e1, e2, e3, e4, _⟩ := stepA_same A
  have torn : ∀ (B : FsA) (q : Nat), B.now = A.now → B.sure = A.sure → B.since = A.since → B.file b = some { f with data := f.data ++ fr.take q } → KeptI B b ps (some p) := fun B q h1 h2 h3 h4 =>
    ⟨h1.trans h.now, h2.trans h.sure, h3.trans h.since, _, fr.take q, h4, by show f.data ++ _ = _; rw [hd], ⟨q, by rw [hfr]⟩, hsu⟩
  have same : ({ f with data := f.data ++ fr.take 0 } : Fil) = f := by simp
  by_cases hl : 65536 < f.data.length + fr.length
  · have hpu : putA A b f fr = (A, 5) := if_pos hl
    rw [hpu, if_neg (show ¬ (5 : Int) = 0 by decide)]
    exact .inr ⟨show (5 : Int) ≠ 0 by decide, torn A 0 rfl rfl rfl (by rw [same]; exact hf)⟩
  by_cases hc : (stepA A).2.2 = 0
  · by_cases hr : A.room - (usedA A : Int) < fr.length
    · have hpu : putA A b f fr = ((stepA A).1, 21) := by unfold putA; rw [if_neg hl, if_pos hc, if_pos hr]
      rw [hpu, if_neg (show ¬ (21 : Int) = 0 by decide)]
      exact .inr ⟨show (21 : Int) ≠ 0 by decide, torn _ 0 e1 e2 e3 (by rw [same, e4]; exact hf)⟩
    · have hpu : putA A b f fr = (withData (stepA A).1 b f fr, 0) := by unfold putA; rw [if_neg hl, if_pos hc, if_neg hr]
      rw [hpu, if_pos rfl]
      obtain ⟨C, hC⟩ : ∃ C, C = withData (stepA A).1 b f fr := ⟨_, rfl⟩
      rw [← hC]
      have c1 : C.now = A.now := by rw [hC]; exact e1
      have c2 : C.sure = A.sure := by rw [hC]; exact e2
      have c3 : C.since = A.since := by rw [hC]; exact e3
      have c4 : C.file b = some { f with data := f.data ++ fr } := by
        rw [hC]
        show (if b = b then _ else _) = _
        rw [if_pos rfl]
      obtain ⟨d1, d2, d3, d4, _⟩ := stepA_same C
      have hfi : findA C (nameV 7) = (some b, 0) := findA_some name7 (by rw [c1]; exact h.get)
      have hsy : syncA C (nameV 7) = doneA C (fun B => { B with file := fun k => if some k = (findA C (nameV 7)).1 then (B.file k).map (fun f => { f with sure := f.data.length }) else B.file k }) := by
        unfold syncA; rw [if_pos (by rw [hfi])]
      rw [hsy]
      unfold doneA
      by_cases hs : (stepA C).2.2 = 0
      · rw [if_pos hs]
        refine .inl ⟨rfl, ⟨d1.trans (c1.trans h.now), d2.trans (c2.trans h.sure), d3.trans (c3.trans h.since), { f with data := f.data ++ fr, sure := (f.data ++ fr).length }, [], ?_, ?_, rfl, ?_⟩⟩
        · show (if some b = (findA C (nameV 7)).1 then ((stepA C).1.file b).map _ else _) = _
          rw [hfi, if_pos rfl, d4, c4]; rfl
        · show f.data ++ fr = _; rw [hrow, hd, hfr, List.append_nil]
        · show (f.data ++ fr).length = _; rw [hrow, hd, hfr]
      · rw [if_neg hs]
        exact .inr ⟨hs, torn _ fr.length (d1.trans c1) (d2.trans c2) (d3.trans c3) (by rw [d4, c4, List.take_length])⟩
  · have hpu : putA A b f fr = (withData (stepA A).1 b f (fr.take (partOf (stepA A).2.1 fr.length (A.room - (usedA A : Int))).toNat), (stepA A).2.2) := by unfold putA; rw [if_neg hl, if_neg hc]
    rw [hpu, if_neg hc]
    refine .inr ⟨hc, torn _ (partOf (stepA A).2.1 fr.length (A.room - (usedA A : Int))).toNat e1 e2 e3 ?_⟩
    show (if b = b then _ else _) = _
    rw [if_pos rfl]
/-- Behind a crash. -/
theorem KeptI.crash (h : KeptI A b ps t) (hI : Inv A n) {dirs : Int} {tails : List Int} {bs : List Nat} (hl : bs.length = (namesD (leftD A dirs)).length) (hnd : bs.Nodup) :
    ∃ y, readA (crashA A dirs tails bs) (nameV 7) = (rowG (onesG ps) ++ y, 0) ∧ TornX t y := by
  obtain ⟨f, x, hf, hd, hx, hsu⟩ := h.file
  have hL : leftD A dirs = oneD (nameV 7) b := by
    unfold leftD preD; rw [h.since, h.sure, List.take_nil]; rfl
  obtain ⟨b', num, g1, g2⟩ := crash_get (tails := tails) hI hl hnd (by rw [hL]; exact one_get _ _) hf
  obtain ⟨N, hN⟩ : ∃ N, N = leftN f (tails.getD f.num.toNat 0) := ⟨_, rfl⟩
  have hle : (rowG (onesG ps)).length ≤ N := by rw [hN]; unfold leftN; omega
  refine ⟨x.take (N - (rowG (onesG ps)).length), ?_, hx.take _⟩
  unfold readA
  rw [findA_some name7 g1, if_pos rfl]
  have hc : (crashedF f (tails.getD f.num.toNat 0) num).data = rowG (onesG ps) ++ x.take (N - (rowG (onesG ps)).length) := by
    unfold crashedF
    show f.data.take _ = _
    rw [← hN, hd, List.take_append, List.take_of_length_le hle]
  simp only [g2, Option.map_some, Option.getD_some]
  rw [hc]
/-- The frames in front. -/
theorem kept_scan {y : List Int} {fs : List (Int × List Int)} {m : Nat} (hy : ∀ p ∈ ps, Fr.Byt p ∧ p.length ≤ 500) (ht : ∀ p, t = some p → Fr.Byt p ∧ p.length ≤ 500) (hx : TornX t y) (hs : Fr.Scanned (rowG (onesG ps) ++ y) fs m) :
    fs = onesG ps ∨ ∃ p, t = some p ∧ fs = onesG (ps ++ [p]) := by
  have hfit : FitG (onesG ps) := fun u hu => by
    obtain ⟨p, hp, rfl⟩ := List.mem_map.1 hu
    have := hy p hp
    exact ⟨by show (1 : Int) ≤ 1; omega, by show (1 : Int) ≤ 9; omega, this.1, by show p.length ≤ _; omega⟩
  cases t with
  | none =>
    obtain rfl : y = [] := hx
    rw [List.append_nil] at hs
    exact .inl (hs.same (scan_row hfit)).1
  | some p =>
    obtain ⟨q, rfl⟩ := hx
    obtain ⟨hpy, hpl⟩ := ht p rfl
    have hb := Fr.frameI_byt (k := 1) (p := p) (by omega) (by omega) hpy
    by_cases hq : q < p.length + 9
    · have := scan_rowG (x := (Fr.frameI 1 p).take q) hfit (fun z hz => hb z (List.mem_of_mem_take hz)) (.stop (Fr.nextF_cut (by omega) hq))
      rw [List.append_nil] at this
      exact .inl (hs.same this).1
    · rw [List.take_of_length_le (by rw [Fr.frameI_length]; omega)] at hs
      have := scan_rowG (x := Fr.frameI 1 p) hfit hb (scan_one (by omega) (by omega) hpy (by omega))
      exact .inr ⟨p, rfl, by rw [onesG_append]; exact (hs.same this).1⟩
theorem KeptI.new (room : Int) (r1 : 1 ≤ room) (r2 : room ≤ 1048576) (b : Nat) : KeptI (segCreateA (newA room) 7 b).1 b [] none := by
  obtain ⟨h1, h2, h3, h4⟩ := seg_create (id := 7) (by omega) (by omega) r1 r2 b
  rw [h1]
  exact ⟨h2.now, h3, h4, _, [], h2.file, rfl, rfl, rfl⟩
/-- Files of bytes are such behind a crash. -/
theorem ByA.crashStep {X : FsA} {L : DataW Unit} {tails : List Int} (h : ByA A) (hX : ByA X) (p : List UInt8 × Nat) : ByA (crashStep A L tails X p) := fun k f e => by
  have e' : (if k = p.2 then some (crashedF (fileOf A L p.1) (tails.getD (fileOf A L p.1).num.toNat 0) X.created) else X.file k) = some f := e
  by_cases hk : k = p.2
  · rw [if_pos hk] at e'
    cases e'
    have hb : Fr.Byt (fileOf A L p.1).data := by
      unfold fileOf
      cases h1 : (dget L ⟨p.1.toArray⟩).bind A.file with
      | none => exact Fr.Byt.nil
      | some f =>
        obtain ⟨b, _, hb⟩ := Option.bind_eq_some_iff.1 h1
        exact h b f hb
    exact fun z hz => hb z (List.mem_of_mem_take hz)
  · rw [if_neg hk] at e'; exact hX k f e'
theorem ByA.fold {L : DataW Unit} {tails : List Int} (h : ByA A) : ∀ (l : List (List UInt8 × Nat)) (X : FsA), ByA X → ByA (l.foldl (Go.Proofs.YtigbgajelkknbaaGreatDoor.crashStep A L tails) X)
  | [], _, hX => hX
  | p :: l, _, hX => ByA.fold h l _ (h.crashStep hX p)
theorem ByA.crash (h : ByA A) (dirs : Int) (tails : List Int) (bs : List Nat) : ByA (crashA A dirs tails bs) := h.fold _ _ (ByA.new _)
/-- The entries of the segment. -/
theorem ents_one {es : List EntT} {qs : List (List Int)} (h : plainE es = idF 7 (onesG qs)) : es.length = qs.length ∧ ∀ (j : Nat) (p : List Int), qs[j]? = some p → ∃ u, es[j]? = some (7, 1, p, u) := by
  unfold plainE idF onesG at h
  rw [List.map_map] at h
  refine ⟨by simpa using congrArg List.length h, fun j p hp => ?_⟩
  have hj := congrArg (fun l => l[j]?) h
  simp only [List.getElem?_map, hp, Option.map_some] at hj
  cases he : es[j]? with
  | none => rw [he] at hj; cases hj
  | some t =>
    obtain ⟨a, k, q, u⟩ := t
    rw [he] at hj
    simp only [Option.map_some, Option.some.injEq, Function.comp, Prod.mk.injEq] at hj
    obtain ⟨rfl, rfl, rfl⟩ := hj
    exact ⟨u, rfl⟩
/-- Texts of payloads, as they lie in memory. -/
def strV (ps : List (List Int)) : List Value := ps.map fun p => .string (strOfNums p)
/-- What stands while payloads are appended. -/
structure KeepI (w0 w : World) (g : Nat) (S : Nat → Prop) (A : FsA) (n b : Nat) (ps rs : List (List Int)) (t : Option (List Int)) (v : Value) : Prop where
  pf : PF w0 w g S A
  inv : Inv A n
  by_ : ByA A
  kept : KeptI A b ps t
  row : w.ownsRow w0.heap.size 9 1 v rs.length (strV rs)
  apart : ∀ k, v.ownBlock = some k → ¬ S k
  fit : ∀ p ∈ ps, Fr.Byt p ∧ p.length ≤ 500
  fitT : ∀ p, t = some p → Fr.Byt p ∧ p.length ≤ 500
variable {w0 w w' : World} {g n' : Nat} {S S' : Nat → Prop} {A' : FsA} {ps' rs : List (List Int)} {t' : Option (List Int)} {v v' : Value} {p : List Int}
theorem KeepI.below (h : KeepI w0 w g S A n b ps rs t v) (hb : Below w.heap.size w w') : KeepI w0 w' g S A n b ps rs t v :=
  ⟨h.pf.below hb, h.inv, h.by_, h.kept, own_stay h.row fun k hk _ => hb.block k hk, h.apart, h.fit, h.fitT⟩
theorem KeepI.mono (h : KeepI w0 w g S A n b ps rs t v) (hn : n ≤ n') : KeepI w0 w g S A n' b ps rs t v :=
  ⟨h.pf, h.inv.mono hn, h.by_, h.kept, h.row, h.apart, h.fit, h.fitT⟩
theorem KeepI.call (h : KeepI w0 w g S A n b ps rs t v) (hp : PF w0 w' g S' A') (ha : Adv S S' w w') (hi : Inv A' n') (hy : ByA A') (hk : KeptI A' b ps' t') (hf : ∀ p ∈ ps', Fr.Byt p ∧ p.length ≤ 500) (hft : ∀ p, t' = some p → Fr.Byt p ∧ p.length ≤ 500) :
    KeepI w0 w' g S' A' n' b ps' rs t' v :=
  ⟨hp, hi, hy, hk, own_stay h.row fun k hk e => (ha.block hk (h.apart k e)).1, fun k e => (ha.block (h.row.lt k e).2 (h.apart k e)).2, hf, hft⟩
theorem KeepI.app (h : KeepI w0 w g S A n b ps rs t v) (ho : w'.ownsRow w0.heap.size 9 1 v' (rs.length + 1) (strV rs ++ [.string (strOfNums p)])) (hg : w.grownBy w' v.ownBlock)
    (hl : v'.ownBlock = v.ownBlock ∨ ∀ k, v'.ownBlock = some k → w.heap.size ≤ k) : KeepI w0 w' g S A n b ps (rs ++ [p]) t v' := by
  refine ⟨h.pf.grow' hg fun k e => ⟨h.apart k e, (h.row.lt k e).1⟩, h.inv, h.by_, h.kept, by rw [List.length_append]; unfold strV at *; rw [List.map_append]; exact ho, fun k e hS => ?_, h.fit, h.fitT⟩
  rcases hl with hl | hl
  · rw [hl] at e; exact h.apart k e hS
  · have := hl k e; have := (h.pf.lo k hS).2; omega
/-- One slice of bytes as the one part. -/
theorem one_part {u : Value} (hu : Fr.BytesE w u p) {m : Nat × Nat} : Fr.Parts (w.alloc (.cells #[u] 37 m)) (.slice (some ⟨w.heap.size, 0, none⟩) 1 1) [p] := by
  have e1 : (w.alloc (.cells #[u] 37 m)).heap[w.heap.size]? = some (.cells #[u] 37 m) := heap_alloc_new w _
  refine .inr ⟨w.heap.size, 0, 1, rfl, heap_lt e1, fun i hi => ?_⟩
  have h0 : i = 0 := by simpa using hi
  subst h0
  exact ⟨u, cell_of_row _ _ 0 _ _ _ e1, hu.below ((Below.refl _ _).alloc (Nat.le_refl _) _)⟩
/-- A remainder, as a number. -/
theorem mod_natK (M n : Int) (hM : 0 < M) (hM2 : M ≤ 4294967296) : ∃ N : Nat, IntKind.i64.wrap ((IntKind.u64.wrap n).tmod M) = N ∧ wrap64 ((IntKind.u64.wrap n).tmod M) = N ∧ (N : Int) < M := by
  have h0 : 0 ≤ IntKind.u64.wrap n := by unfold IntKind.wrap; simp [IntKind.signed, IntKind.bits]; omega
  rw [Int.tmod_eq_emod_of_nonneg h0]
  have h1 := Int.emod_nonneg (IntKind.u64.wrap n) (show M ≠ 0 by omega)
  have h2 := Int.emod_lt_of_pos (IntKind.u64.wrap n) hM
  refine ⟨(IntKind.u64.wrap n % M).toNat, ?_, ?_, by omega⟩
  · rw [IntWalk.i64_in _ (by omega)]; omega
  · have h3 : wrap64 (IntKind.u64.wrap n % M) = IntKind.u64.wrap n % M := by unfold wrap64; omega
    rw [h3]; omega
end
end Go.Proofs.YtigbgajelkknbaaGreatDoor
