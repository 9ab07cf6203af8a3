/- Package manifest: what parse answers: the walk. -/
import Derived.Test.YtkdjkmnalkalpaaGreatDoorMfQ
namespace Go.Proofs.YtkdjkmnalkalpaaGreatDoor
open Go.RowKit Go.Shelf
attribute [local go_sem] Oper.semAt_some
set_option maxRecDepth 100000

theorem intInfo : (Tryz.prog.info? 3).map (fun i => (i.zero, i.size, i.bytes)) = some (some (.int .i64 0), 1, 8) := by kernel_rfl
theorem PieceV.wide {w W : World} {K : Nat → Prop} {Bs : Nat} {u : Value} {q : List Int} (h : PieceV (fun k => k < w.heap.size) w.heap.size w u q) (hb : Below w.heap.size w W) (hK : ∀ k, k < w.heap.size → K k) (hB : w.heap.size ≤ Bs) : PieceV K Bs W u q := by
  obtain ⟨p, c, h1, h2, hz, h3⟩ := h
  refine ⟨p, c, h1, h2, hz, fun h0 => ?_⟩
  obtain ⟨b, o, e, hk, hn, hc⟩ := h3 h0
  exact ⟨b, o, e, hK b hk, fun e => by omega, fun i hi => by rw [World.cell?_of_block (w := w) (hb.block b hk)]; exact hc i hi⟩
theorem alloc_old (W : World) (o : Obj) {k : Nat} (h : k < W.heap.size) : (W.alloc o).heap[k]? = W.heap[k]? := Below.heap_alloc W o k h
theorem alloc_this (W : World) (o : Obj) {k : Nat} (h : k = W.heap.size) : (W.alloc o).heap[k]? = some o := by subst h; exact World.alloc_heap_new W o
theorem row_ints {w : World} {base g : Nat} {n cap : Nat} {l : List Int} (h : w.ownsRow base 3 1 (.slice (some ⟨g, 0, none⟩) n cap) n (l.map (Value.int .i64))) : base ≤ g ∧ n ≤ cap ∧ g < w.heap.size ∧ w.rangeAt g 0 (l.map (Value.int .i64)) := by
  rcases h.2 with ⟨h0, _⟩ | ⟨g', cap', cur, hv, hge, hh, hn, _, hcs, hxs⟩
  · cases h0
  · cases hv
    refine ⟨hge, hn, ?_, fun j u hu => ?_⟩
    · by_cases k : g < w.heap.size
      · exact k
      · rw [Array.getElem?_eq_none (by omega)] at hh; cases hh
    · rw [cell_of_row w g (0 + j) cur 3 (0, 0) hh, ← Array.getElem?_toList]
      rw [← hxs] at hu
      rw [List.getElem?_take] at hu
      split at hu
      · rw [Nat.zero_add]; exact hu
      · cases hu
theorem set_two0 {W : World} {b : Nat} {x y : Value} {t : TypeId} (h : W.heap[b]? = some (.cells #[x, y] t (0, 0))) (v : Value) : (W.setCell ⟨b, 0, none⟩ v).heap[b]? = some (.cells #[v, y] t (0, 0)) := by
  obtain ⟨hlt, hk⟩ := Array.getElem?_eq_some_iff.1 h
  show (W.heap.modify b _)[b]? = _
  rw [Array.getElem?_eq_getElem (by rw [Array.size_modify]; exact hlt), Array.getElem_modify_self, hk]
  rfl
theorem set_two1 {W : World} {b : Nat} {x y : Value} {t : TypeId} (h : W.heap[b]? = some (.cells #[x, y] t (0, 0))) (v : Value) : (W.setCell ⟨b, 1, none⟩ v).heap[b]? = some (.cells #[x, v] t (0, 0)) := by
  obtain ⟨hlt, hk⟩ := Array.getElem?_eq_some_iff.1 h
  show (W.heap.modify b _)[b]? = _
  rw [Array.getElem?_eq_getElem (by rw [Array.size_modify]; exact hlt), Array.getElem_modify_self, hk]
  rfl
theorem set_other {W : World} {b o k : Nat} {v : Value} (h : k ≠ b) : (W.setCell ⟨b, o, none⟩ v).heap[k]? = W.heap[k]? := Below.heap_setCell W ⟨b, o, none⟩ v k h
theorem set_size {W : World} {b o : Nat} {v : Value} : (W.setCell ⟨b, o, none⟩ v).heap.size = W.heap.size := by
  show (W.heap.modify _ _).size = _
  rw [Array.size_modify]
def KeptP (w : World) (k : Nat) : Prop := k < w.heap.size ∨ (w.heap.size + 4 ≤ k ∧ k < w.heap.size + 8)
def parseR (w : World) (q : List Int) (e : Ending) (w' : World) : Prop :=
  (∃ n ns v, numsP (cutP (trimP q)) = some (n :: ns) ∧ e = .returned (.tuple #[.agg #[.int .i64 n, v], .bool true]) ∧ (∃ b o cap, v = .slice (some ⟨b, o, none⟩) ns.length cap ∧ w.heap.size ≤ b ∧ b < w'.heap.size ∧ w'.rangeAt b o (ns.map (Value.int .i64)))) ∨
  (numsP (cutP (trimP q)) = none ∧ e = .returned (.tuple #[.agg #[.int .i64 0, .slice none 0 0], .bool false]))
set_option maxHeartbeats 16000000 in
theorem parse_any (p : Option Addr) (c : Nat) (q : List Int) (w : World) (hp : PieceV (fun k => k < w.heap.size) w.heap.size w (.slice p q.length c) q) (hb : Fr.Byt q) (hl : q.length < 100000)
    (hs : ErrV w 1) (hr : ErrV w 2) :
    Calls Tryz.prog 93 #[.slice p q.length c] w fun e w' => parseR w q e w' ∧ Below w.heap.size w w' := by
  have HP := Lib.hid hp
  have HB := Lib.hid hb
  have HL := Lib.hid hl
  have HS := Lib.hid hs
  have HR := Lib.hid hr
  clear hp hb hl hs hr
  refine (callsIn_wide (n := 12)).1 ?_
  refine callsIn_of_wp_marks Tryz.func93 rfl trivial ?_ rfl
  simp only [Tryz.ntmps93, List.size_toArray, List.length_cons, List.length_nil, Nat.reduceAdd, Nat.reduceSub, Array.replicate_succ, Array.replicate_zero, List.push_toArray, List.append_toArray, List.nil_append, List.cons_append]
  gi_wp2
  refine ⟨trivial, ?_⟩
  obtain ⟨W4, hW4⟩ : ∃ W4, ((((w.alloc (Obj.cells #[Value.int IntKind.i64 0, Value.slice none 0 0] 37)).alloc (Obj.cells #[Value.bool false] 4)).alloc (Obj.cells #[Value.slice none 0 0] 31)).alloc (Obj.cells #[Value.int IntKind.u8 10] 5)) = W4 := ⟨_, rfl⟩
  rw [hW4]
  have z4 : W4.heap.size = w.heap.size + 4 := by rw [← hW4]; simp
  have b4 : Below w.heap.size w W4 := by
    rw [← hW4]
    exact ((((Below.refl _ w).alloc (Nat.le_refl _) _).alloc (by simp) _).alloc (by simp; omega) _).alloc (by simp; omega) _
  have e3 : W4.heap[w.heap.size + 3]? = some (.cells #[.int .u8 10] 5 (0, 0)) := by rw [← hW4]; exact alloc_this _ _ (by simp)
  have e2 : Boxed W4 (w.heap.size + 2) 31 (.slice none 0 0) := by rw [← hW4]; exact (alloc_old _ _ (by simp)).trans (alloc_this _ _ (by simp))
  have e1 : Boxed W4 (w.heap.size + 1) 4 (.bool false) := by rw [← hW4]; exact (alloc_old _ _ (by simp)).trans ((alloc_old _ _ (by simp)).trans (alloc_this _ _ (by simp)))
  have e0 : W4.heap[w.heap.size]? = some (.cells #[.int .i64 0, .slice none 0 0] 37 (0, 0)) := by rw [← hW4]; exact (alloc_old _ _ (by simp; omega)).trans ((alloc_old _ _ (by simp; omega)).trans ((alloc_old _ _ (by simp)).trans (alloc_this _ _ rfl)))
  have c3 : W4.cell? ⟨w.heap.size + 1 + 1 + 1, 0, none⟩ = some (.int .u8 10) := by simp [World.cell?, show W4.heap[w.heap.size + 1 + 1 + 1]? = _ from e3]
  have HTR := Lib.hid (trim_any p q c (w.heap.size + 1 + 1 + 1) W4 (KeptP w) (w.heap.size + 5) (HP.out.wide b4 (fun k hk => .inl hk) (by omega)) HB.out (by have := HL.out; omega) c3)
  have E0 := Lib.hid e0
  have E1 := Lib.hid e1
  have E2 := Lib.hid e2
  have B4 := Lib.hid b4
  clear hW4 e0 e1 e2 e3 c3 b4
  refine (callsIn_wide.2 HTR.out).mono ?_; rintro e w1 ⟨⟨u, rfl, hu1, hu⟩, rfl⟩
  clear HTR
  gi_wp2
  refine ⟨trivial, ?_⟩
  have z5 : (w1.alloc (Obj.cells #[Value.int IntKind.u8 10] 5)).heap.size = w.heap.size + 5 := by simp [z4]
  have hsq := splitSeq_any u (.slice (some ⟨w.heap.size + 4, 0, none⟩) 1 1) (w1.alloc (Obj.cells #[Value.int IntKind.u8 10] 5)) hu1 rfl
  rw [z5] at hsq
  refine (callsIn_wide.2 hsq).mono ?_; rintro e W8 ⟨rfl, hW8⟩
  clear hsq
  have z8 : W8.heap.size = w.heap.size + 8 := by rw [hW8]; simp [z4]
  have low : ∀ k, k < w.heap.size + 4 → W8.heap[k]? = w1.heap[k]? := fun k hk => by
    rw [hW8]
    exact (alloc_old _ _ (by simp [z4]; omega)).trans ((alloc_old _ _ (by simp [z4]; omega)).trans ((alloc_old _ _ (by simp [z4]; omega)).trans (alloc_old _ _ (by omega))))
  have x4 : W8.heap[w.heap.size + 4]? = some (.cells #[.int .u8 10] 5 (0, 0)) := by
    rw [hW8]
    exact (alloc_old _ _ (by simp [z4])).trans ((alloc_old _ _ (by simp [z4])).trans ((alloc_old _ _ (by simp [z4])).trans (alloc_this _ _ z4.symm)))
  have x5 : Boxed W8 (w.heap.size + 5) 38 u := by
    rw [hW8]
    exact (alloc_old _ _ (by simp [z4])).trans ((alloc_old _ _ (by simp [z4])).trans (alloc_this _ _ z5.symm))
  have x6 : Boxed W8 (w.heap.size + 6) 38 (.slice (some ⟨w.heap.size + 4, 0, none⟩) 1 1) := by
    rw [hW8]
    exact (alloc_old _ _ (by simp [z4])).trans (alloc_this _ _ (by simp [z4]))
  have x7 : Boxed W8 (w.heap.size + 7) 3 (.int .i64 0) := by
    rw [hW8]
    exact alloc_this _ _ (by simp [z4])
  have hres : ResB w W8 := ⟨(low _ (by omega)).trans E0.out, (low _ (by omega)).trans E1.out, (by
    rw [hW8]
    exact (((B4.out.alloc B4.out.size _).alloc (by simp; omega) _).alloc (by simp; omega) _).alloc (by simp; omega) _), by omega⟩
  have hseq : SeqAt (KeptP w) (w.heap.size + 5) (w.heap.size + 6) (w.heap.size + 7) (w.heap.size + 4) W8 u (trimP q) := by
    refine ⟨x5, ?_, x6, by simp [World.cell?, x4], x7, .inr (by omega), .inr (by omega), .inr (by omega), .inr (by omega), by omega, by omega, by omega⟩
    obtain ⟨p', c', h1, h2, hz, h3⟩ := hu
    refine ⟨p', c', h1, h2, hz, fun h0 => ?_⟩
    obtain ⟨b, o, e, hk, hn, hc⟩ := h3 h0
    have hlt : b < w1.heap.size := World.block_lt_of_cell? w1 _ (hc 0 h0)
    refine ⟨b, o, e, hk, hn, fun i hi => ?_⟩
    rw [World.cell?_of_block (w := w1) (low b (by omega))]
    exact hc i hi
  have hI0 : LineI w [] W8 := ⟨⟨_, (low _ (by omega)).trans E2.out, World.ownsRow_nil _ _ _ _, rfl⟩, hres⟩
  have HSQ := Lib.hid hseq
  have HI0 := Lib.hid hI0
  have HZ8 := Lib.hid z8
  clear hW8 low x4 x5 x6 x7 hres hseq hI0 E0 E1 E2 B4 z4 z5 hu hu1 z8
  have htb : Fr.Byt (trimP q) := by
    unfold trimP
    split
    · exact fun z hz => HB.out z (List.dropLast_subset _ hz)
    · exact HB.out
  have htl : (trimP q).length ≤ q.length := by unfold trimP; split <;> simp
  have HTB := Lib.hid htb
  have HTL := Lib.hid htl
  clear htb htl
  gi_wp2
  refine lines_range 12 (w.heap.size + 5) (w.heap.size + 6) (w.heap.size + 7) (w.heap.size + 4) (by omega) (KeptP w) (trimP q) HTB.out (by have := HTL.out; have := HL.out; omega) rfl u HSQ.out (fun k hk => by rw [HZ8.out]; rcases hk with h | h <;> omega) (LineI w) (LineX w) (by rw [HZ8.out]; exact LineI.own) (by rw [HZ8.out]; exact LineX.own) (fun pre W v h => h.set v) HI0.out
    (fun x => { tmps := #[.slice p q.length c, undef, .pointer (some ⟨w.heap.size, 0, none⟩), .pointer (some ⟨w.heap.size + 1, 0, none⟩), .pointer (some ⟨w.heap.size + 1 + 1, 0, none⟩), x, undef, undef, .slice p q.length c, .slice (some ⟨w.heap.size + 1 + 1 + 1, 0, none⟩) 1 1, u, .slice (some ⟨w.heap.size + 4, 0, none⟩) 1 1, .func (.func 219) #[] #[.pointer (some ⟨w.heap.size + 6, 0, none⟩), .pointer (some ⟨w.heap.size + 5, 0, none⟩), .pointer (some ⟨w.heap.size + 7, 0, none⟩)], x, undef, undef, undef, undef, undef, undef, undef, undef, undef, undef, undef, undef, undef, undef, undef, undef, undef, undef, undef], defers := [] }) ?assign ?body ?done ?stop
  case assign =>
    intro l u' W Kc hK
    gi_wp2
    exact hK
  case body =>
    intro l pre x rest u' W hx hu' hI
    obtain ⟨p', c', rfl, hle, hz, hcells⟩ := hu'
    obtain ⟨⟨v, hv, hrow, hnum⟩, hres⟩ := hI
    have hlen : x.length ≤ (trimP q).length := cutP_mem _ _ (by rw [hx]; simp)
    have hpl : pre.length ≤ (trimP q).length := by
      have h1 := cutP_length (trimP q)
      rw [hx] at h1
      simp at h1
      omega
    obtain ⟨ns0, hns0⟩ : ∃ ns0, numsP pre = some ns0 := Option.isSome_iff_exists.1 hnum
    have hnsl : (nsP pre).length = pre.length := by unfold nsP; rw [hns0]; exact numsP_length hns0
    have HNL := Lib.hid hnsl
    clear hnsl
    have HBI : Lib.BytesIn W p' x.length x := fun h0 => by
      obtain ⟨b, o, e, _, _, hc⟩ := hcells h0
      exact ⟨b, o, e, hc⟩
    have hcv := HBI.convert rfl c' 38 5 9 Tryz.underlying38 Tryz.underlying5 Tryz.underlying9
    have HAT := Lib.hid (atoi_any x W (by have := HTL.out; have := HL.out; omega) (HS.out.below hres.2.2.1) (HR.out.below hres.2.2.1))
    have h1 : 1 ≤ 12 - 1 - 1 := by decide
    clear hcells HBI
    gi_wp2
    refine ⟨trivial, ?_⟩
    refine (CallsIn.inRound l (callsIn_wide.2 HAT.out)).mono ?_
    rintro e W2 ⟨⟨m, hm, rfl⟩ | ⟨hm, k, t, pp, rfl⟩, hb2⟩
    · have hv2 : Boxed W2 (w.heap.size + 2) 31 v := (hb2.block _ hv.lt).trans hv
      have hrow2 : W2.ownsRow (w.heap.size + 8) 3 1 v (nsP pre).length ((nsP pre).map (Value.int .i64)) := hrow.kept ⟨hb2.os, hb2.tape, hb2.output, hb2.size, fun k hk _ => hb2.block k hk⟩ (row := none) (Classical.em _)
      have hres2 : ResB w W2 := ⟨(hb2.block _ (Array.getElem?_eq_some_iff.1 hres.1).1).trans hres.1, (hb2.block _ hres.2.1.lt).trans hres.2.1, hres.2.2.1.trans (hb2.mono hres.2.2.1.size), Nat.le_trans hres.2.2.2 hb2.size⟩
      have hc2 := hv2.cell
      have hkk : ∀ k, KeptP w k → k < W.heap.size → W2.heap[k]? = W.heap[k]? := fun k _ hk => hb2.block k hk
      obtain ⟨i0, hi, hz0, hz1, hz2⟩ := info_parts intInfo
      have hnl : (nsP pre).length ≤ 100000 := by have := HTL.out; have := HL.out; have := HNL.out; omega
      have hsz2 : w.heap.size + 8 ≤ W2.heap.size := hres2.2.2.2
      have HH := Lib.hid hx
      clear hx
      gi_wp2_with (gi_at_builtin; refine wpListIn_append_own _ rfl _ _ 31 rfl (w.heap.size + 8) 3 i0 (.int .i64 0) 1 8 Tryz.underlying31 hi hz0 hz1 hz2 rfl (by decide) _ _ _ rfl (hrow2.alloc _) ⟨W2.heap.size, 0, none⟩ 1 1 [.int .i64 m] rfl rfl (cell_one_new _ _ _) (by simp [Value.oneCell']) (by unfold maxLen; omega) (by omega) (by simp; omega) ?_; intro v' w3 hown3 hg3 _; obtain ⟨g3, cap3, rfl⟩ := ownsRow_succ hown3; have hv3 : Boxed w3 (w.heap.size + 2) 31 v := (hv2.alloc _).kept hg3 (hv2.not_row (by decide) hrow2); have hc3 := hv3.cell; have hf3 := hv3.frozen)
      have hg3' : (W2.alloc (Obj.cells #[Value.int IntKind.i64 m] 3)).grownBy w3 v.ownBlock := hg3
      clear hg3
      have hrowk : ∀ j, v.ownBlock = some j → w.heap.size + 8 ≤ j ∧ ∃ o, W2.heap[j]? = some o ∧ o.isCells = true := fun j e => by
        rcases hrow2.2 with ⟨rfl, _⟩ | ⟨g, cap, cur, rfl, hge, hgg, _⟩
        · cases e
        · cases e
          exact ⟨hge, _, hgg, rfl⟩
      have hg3ge : w.heap.size + 8 ≤ g3 := by
        rcases hown3.2 with ⟨e, _⟩ | ⟨g, cap, cur, e, hge, _⟩
        · cases e
        · cases e; exact hge
      have hstep : ∀ k, k < W2.heap.size → v.ownBlock ≠ some k → k ≠ w.heap.size + 2 → (w3.setCell ⟨w.heap.size + 2, 0, none⟩ (.slice (some ⟨g3, 0, none⟩) ((nsP pre).length + 1) cap3)).heap[k]? = W2.heap[k]? := fun k hk h1 h2 =>
        (Below.heap_setCell w3 ⟨w.heap.size + 2, 0, none⟩ _ k h2).trans ((hg3'.block k (by simp; omega) (fun e => h1 e.symm)).trans (alloc_old _ _ hk))
      have hszf : W2.heap.size ≤ (w3.setCell ⟨w.heap.size + 2, 0, none⟩ (.slice (some ⟨g3, 0, none⟩) ((nsP pre).length + 1) cap3)).heap.size :=
        Nat.le_trans (by have := hg3'.size; simp at this; omega) (grownBy_setCell' w3 (w.heap.size + 2) _).size
      have hns : nsP (pre ++ [x]) = nsP pre ++ [m] := by unfold nsP; rw [numsP_snoc hns0 hm, hns0]; rfl
      refine ⟨⟨Nat.le_trans hb2.size hszf, fun k o hk ho hc => ?_⟩, fun k hk => ?_, ⟨_, hv3.set _, ?_, by rw [numsP_snoc hns0 hm]; rfl⟩, ?_⟩
      · rw [HZ8.out] at hk
        have hkl : k < W.heap.size := (Array.getElem?_eq_some_iff.1 ho).1
        have ho2 := (hb2.block k hkl).trans ho
        refine (hstep k (by have := hb2.size; omega) (fun e => ?_) (by omega)).trans ho2
        obtain ⟨_, o', h1, h2⟩ := hrowk k e
        rw [ho2] at h1
        cases h1
        rw [hc] at h2
        cases h2
      · have hkl : k < W.heap.size := by have := hres.2.2.2; rcases hk with h | h <;> omega
        refine (hstep k (by have := hb2.size; omega) (fun e => ?_) (by rcases hk with h | h <;> omega)).trans (hb2.block k hkl)
        have := (hrowk k e).1
        rcases hk with h | h <;> omega
      · rw [hns]
        simp only [List.length_append, List.length_cons, List.length_nil, List.map_append, List.map_cons, List.map_nil]
        exact hown3.kept (grownBy_setCell' w3 (w.heap.size + 2) _) (.inr fun e => by
          have e' : g3 = w.heap.size + 2 := by simpa [Value.ownBlock] using e
          omega)
      · have hn : ∀ k, k < w.heap.size + 2 → v.ownBlock ≠ some k := fun k hk e => by have := (hrowk k e).1; omega
        refine ⟨(hstep _ (by omega) (hn _ (by omega)) (by omega)).trans hres2.1, (hstep _ (by omega) (hn _ (by omega)) (by omega)).trans hres2.2.1, ?_, Nat.le_trans hsz2 hszf⟩
        refine Below.setCell (p := ⟨w.heap.size + 2, 0, none⟩) ?_ (show w.heap.size ≤ w.heap.size + 2 by omega) _
        refine (hres2.2.2.1.alloc hres2.2.2.1.size _).grown hg3' (by simp; omega) fun k e => ?_
        have := (hrowk k e).1
        omega
    · have hres2 : ResB w W2 := ⟨(hb2.block _ (Array.getElem?_eq_some_iff.1 hres.1).1).trans hres.1, (hb2.block _ hres.2.1.lt).trans hres.2.1, hres.2.2.1.trans (hb2.mono hres.2.2.1.size), Nat.le_trans hres.2.2.2 hb2.size⟩
      have r0 : W2.cell? ⟨w.heap.size, 0, none⟩ = some (.int .i64 0) := by simp [World.cell?, hres2.1]
      have r1 : W2.cell? ⟨w.heap.size, 1, none⟩ = some (.slice none 0 0) := by simp [World.cell?, hres2.1]
      have r2 : W2.cell? ⟨w.heap.size + 1, 0, none⟩ = some (.bool false) := hres2.2.1.cell
      have f0 : W2.frozen? ⟨w.heap.size, 0, none⟩ = false := by simp [World.frozen?, hres2.1]
      have f1 : W2.frozen? ⟨w.heap.size, 1, none⟩ = false := by simp [World.frozen?, hres2.1]
      have f2 : W2.frozen? ⟨w.heap.size + 1, 0, none⟩ = false := hres2.2.1.frozen
      have HH := Lib.hid hx
      have HRS := Lib.hid hres2
      clear hx hres2 hv hrow hres
      gi_wp2
      obtain ⟨q0, q1, q2, q3⟩ := HRS.out
      have hst : ∀ k, k ≠ w.heap.size → k ≠ w.heap.size + 1 → (((W2.setCell ⟨w.heap.size, 0, none⟩ (.int .i64 0)).setCell ⟨w.heap.size, 1, none⟩ (.slice none 0 0)).setCell ⟨w.heap.size + 1, 0, none⟩ (.bool false)).heap[k]? = W2.heap[k]? := fun k h1 h2 =>
        (set_other h2).trans ((set_other h1).trans (set_other h1))
      refine ⟨⟨by simp only [set_size]; exact hb2.size, fun k o hk ho hc => ?_⟩, ⟨x, by simp, hm⟩, ?_, ?_, ?_, by simp only [set_size]; exact q3⟩
      · rw [HZ8.out] at hk
        exact (hst k (by omega) (by omega)).trans ((hb2.block k (Array.getElem?_eq_some_iff.1 ho).1).trans ho)
      · exact (set_other (by omega)).trans (set_two1 (set_two0 q0 _) _)
      · exact Boxed.set (v := .bool false) _ ((set_other (by omega)).trans ((set_other (by omega)).trans q1))
      · exact ((q2.setCell (p := ⟨w.heap.size, 0, none⟩) (Nat.le_refl _) _).setCell (p := ⟨w.heap.size, 1, none⟩) (Nat.le_refl _) _).setCell (p := ⟨w.heap.size + 1, 0, none⟩) (show w.heap.size ≤ w.heap.size + 1 by omega) _
  case done =>
    intro D W hD hI hK
    obtain ⟨⟨v, hv, hrow, hnum⟩, hres⟩ := hI
    have HH := Lib.hid hres
    have hDne : D ≠ w.heap.size ∧ D ≠ w.heap.size + 1 := by rw [HZ8.out] at hD; omega
    obtain ⟨ns0, hns0⟩ : ∃ ns0, numsP (cutP (trimP q)) = some ns0 := Option.isSome_iff_exists.1 hnum
    have hnl := numsP_length hns0
    obtain ⟨n, ns, rfl⟩ : ∃ n ns, ns0 = n :: ns := by
      cases ns0 with
      | nil => exact absurd (List.eq_nil_of_length_eq_zero (by simpa using hnl.symm)) (cutP_ne _)
      | cons n ns => exact ⟨n, ns, rfl⟩
    have hnsP : nsP (cutP (trimP q)) = n :: ns := by unfold nsP; rw [hns0]; rfl
    have hlb : ns.length < 200000 := by
      have h1 := cutP_length (trimP q)
      have := HTL.out
      have := HL.out
      simp at hnl
      omega
    rw [hnsP] at hrow
    obtain ⟨g, cap, rfl⟩ := ownsRow_succ (k := ns.length) hrow
    obtain ⟨hge, hcap, hgl, hrg⟩ := row_ints hrow
    have cv : W.cell? ⟨w.heap.size + 2, 0, none⟩ = some (.slice (some ⟨g, 0, none⟩) (ns.length + 1) cap) := hv.cell
    have cg : W.cell? ⟨g, 0, none⟩ = some (.int .i64 n) := hrg 0 _ rfl
    obtain ⟨q0, q1, q2, q3⟩ := HH.out
    have r0 : W.cell? ⟨w.heap.size, 0, none⟩ = some (.int .i64 0) := by simp [World.cell?, q0]
    have r1 : W.cell? ⟨w.heap.size, 1, none⟩ = some (.slice none 0 0) := by simp [World.cell?, q0]
    have r2 : W.cell? ⟨w.heap.size + 1, 0, none⟩ = some (.bool false) := q1.cell
    have f0 : W.frozen? ⟨w.heap.size, 0, none⟩ = false := by simp [World.frozen?, q0]
    have f1 : W.frozen? ⟨w.heap.size, 1, none⟩ = false := by simp [World.frozen?, q0]
    have f2 : W.frozen? ⟨w.heap.size + 1, 0, none⟩ = false := q1.frozen
    have hcapl : ns.length + 1 ≤ cap := hcap
    have HRG := Lib.hid hrg
    have HNS := Lib.hid hns0
    have HNL := Lib.hid hnl
    have HLB := Lib.hid hlb
    have HV := Lib.hid hv
    clear hrg hns0 hnl hnsP hrow hnum hres q0 q1 q2 hlb hv hcap
    have hN := HZ8.out
    have fin : ∀ (sv : Value) (o cc : Nat), sv = .slice (some ⟨g, o, none⟩) ns.length cc → W.rangeAt g o (ns.map (Value.int .i64)) → ∀ Wf, Wf = (((W.setCell ⟨w.heap.size, 0, none⟩ (.int .i64 n)).setCell ⟨w.heap.size, 1, none⟩ sv).setCell ⟨w.heap.size + 1, 0, none⟩ (.bool true)).drew →
        Wf.heap[D]? = some (.deferred (some [])) ∧ (Wf.putObj D (.deferred none)).cell? ⟨w.heap.size, 0, none⟩ = some (.int .i64 n) ∧ (Wf.putObj D (.deferred none)).cell? ⟨w.heap.size, 1, none⟩ = some sv ∧ (Wf.putObj D (.deferred none)).cell? ⟨w.heap.size + 1, 0, none⟩ = some (.bool true) ∧
        parseR w q (.returned (.tuple #[.agg #[.int .i64 n, sv], .bool true])) (Wf.putObj D (.deferred none)) ∧ Below w.heap.size w (Wf.putObj D (.deferred none)) := by
      intro sv o cc hsv hrg Wf hWf
      obtain ⟨q0, q1, q2, _⟩ := HH.out
      have hst : ∀ k, k ≠ w.heap.size → k ≠ w.heap.size + 1 → Wf.heap[k]? = W.heap[k]? := fun k h1 h2 => by
        rw [hWf]
        exact (set_other h2).trans ((set_other h1).trans (set_other h1))
      have hfD := (hst D hDne.1 hDne.2).trans hK
      have s0 : Wf.heap[w.heap.size]? = some (.cells #[.int .i64 n, sv] 37 (0, 0)) := by
        rw [hWf]
        exact (set_other (by omega)).trans (set_two1 (set_two0 q0 _) _)
      have s1 : Wf.heap[w.heap.size + 1]? = some (.cells #[.bool true] 4 (0, 0)) := by
        rw [hWf]
        exact Boxed.set (v := .bool false) _ ((set_other (by omega)).trans ((set_other (by omega)).trans q1))
      have p0 : (Wf.putObj D (.deferred none)).heap[w.heap.size]? = _ := (World.putObj_heap_other (Ne.symm hDne.1)).trans s0
      have p1 : (Wf.putObj D (.deferred none)).heap[w.heap.size + 1]? = _ := (World.putObj_heap_other (Ne.symm hDne.2)).trans s1
      have hgD : g ≠ D := fun e => by
        rcases Nat.lt_or_ge g W.heap.size with h | h
        · subst e
          unfold World.cell? at cg
          rw [show W.heap[g]? = _ from hK] at cg
          cases cg
        · omega
      have pg : (Wf.putObj D (.deferred none)).heap[g]? = W.heap[g]? := (World.putObj_heap_other hgD).trans (hst g (by omega) (by omega))
      have hbf : Below w.heap.size w Wf := by
        rw [hWf]
        exact (((q2.setCell (p := ⟨w.heap.size, 0, none⟩) (Nat.le_refl _) _).setCell (p := ⟨w.heap.size, 1, none⟩) (Nat.le_refl _) _).setCell (p := ⟨w.heap.size + 1, 0, none⟩) (show w.heap.size ≤ w.heap.size + 1 by omega) _).drew
      have hgf : g < (Wf.putObj D (.deferred none)).heap.size := by
        by_cases k : g < (Wf.putObj D (.deferred none)).heap.size
        · exact k
        · rw [Array.getElem?_eq_none (by omega)] at pg
          rw [Array.getElem?_eq_getElem hgl] at pg
          cases pg
      refine ⟨hfD, by simp [World.cell?, p0], by simp [World.cell?, p0], by simp [World.cell?, p1], .inl ⟨n, ns, sv, HNS.out, rfl, g, o, cc, hsv, by omega, hgf, fun j u hu => ?_⟩, ?_⟩
      · rw [World.cell?_of_block (w := W) pg]
        exact hrg j u hu
      · exact hbf.trans (belowK_b (w := w) (Nat.le_refl _) Wf D _ _ (by omega) hfD rfl rfl)
    have FIN := Lib.hid fin
    clear fin
    by_cases hc1 : cap = 1
    · obtain rfl : ns = [] := List.eq_nil_of_length_eq_zero (by omega)
      subst hc1
      obtain ⟨x0, x1, x2, x3, x4, x5⟩ := FIN.out _ 0 0 rfl (by intro j u hu; simp at hu) _ rfl
      have X4 := Lib.hid x4
      clear x4
      gi_wp2
      gi_region
      all_goals gi_wp2
      refine ⟨by simp, .inl ⟨_, _, rfl, run_takeDeferred x0, ?_⟩⟩
      exact ⟨.tuple #[.agg #[.int .i64 n, .slice (some ⟨g, 0, none⟩) 0 0], .bool true], by simp only [List.length_nil] at x1 x2 x3; simp [results, Tryz.results93, go_sem, x1, x2, x3], X4.out, x5⟩
    · obtain ⟨x0, x1, x2, x3, x4, x5⟩ := FIN.out _ 1 (cap - 1) rfl (fun j u hu => by
        have := HRG.out (j + 1) u (by simpa using hu)
        rw [Nat.zero_add] at this
        rw [Nat.add_comm 1 j]
        exact this) _ rfl
      have X4 := Lib.hid x4
      clear x4
      gi_wp2
      gi_region
      all_goals gi_wp2
      refine ⟨by simp, .inl ⟨_, _, rfl, run_takeDeferred x0, ?_⟩⟩
      exact ⟨.tuple #[.agg #[.int .i64 n, .slice (some ⟨g, 1, none⟩) ns.length (cap - 1)], .bool true], by simp [results, Tryz.results93, go_sem, x1, x2, x3], X4.out, x5⟩
  case stop =>
    intro D pre W hD hpre hX hK
    obtain ⟨⟨x, hx, hm⟩, q0, q1, q2, q3⟩ := hX
    have hDne : D ≠ w.heap.size ∧ D ≠ w.heap.size + 1 := by rw [HZ8.out] at hD; omega
    gi_wp2
    refine ⟨by simp, .inl ⟨_, _, rfl, run_takeDeferred hK, ?_⟩⟩
    have p0 : (W.putObj D (.deferred none)).heap[w.heap.size]? = some (.cells #[.int .i64 0, .slice none 0 0] 37 (0, 0)) := (World.putObj_heap_other (Ne.symm hDne.1)).trans q0
    have p1 : (W.putObj D (.deferred none)).heap[w.heap.size + 1]? = some (.cells #[.bool false] 4 (0, 0)) := (World.putObj_heap_other (Ne.symm hDne.2)).trans q1
    have c0 : (W.putObj D (.deferred none)).cell? ⟨w.heap.size, 0, none⟩ = some (.int .i64 0) := by simp [World.cell?, p0]
    have c1 : (W.putObj D (.deferred none)).cell? ⟨w.heap.size, 1, none⟩ = some (.slice none 0 0) := by simp [World.cell?, p0]
    have c2 : (W.putObj D (.deferred none)).cell? ⟨w.heap.size + 1, 0, none⟩ = some (.bool false) := by simp [World.cell?, p1]
    have hbad : numsP (cutP (trimP q)) = none := numsP_bad (hpre.subset hx) hm
    have hbb : Below w.heap.size w (W.putObj D (.deferred none)) := q2.trans (belowK_b (w := w) (Nat.le_refl _) W D _ _ (by rw [HZ8.out] at hD; omega) hK rfl rfl)
    exact ⟨.tuple #[.agg #[.int .i64 0, .slice none 0 0], .bool false], by simp [results, Tryz.results93, go_sem, c0, c1, c2], .inr ⟨hbad, rfl⟩, hbb⟩
end Go.Proofs.YtkdjkmnalkalpaaGreatDoor
