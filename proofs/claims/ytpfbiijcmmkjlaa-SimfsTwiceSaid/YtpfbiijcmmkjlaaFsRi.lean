/- The reference of layer 2 (rubricref02): rows of files of one's own; 'New', 'Used'. -/
import Derived.Test.YtpfbiijcmmkjlaaFsRh
namespace Go.Proofs.Ytpfbiijcmmkjlaa
open Go.RowKit

theorem rfInfo : (Try.prog.info? 75).map (fun i => (i.zero, i.size, i.bytes)) = some (some (.agg #[.string ⟨#[]⟩, .int .i64 0]), 2, 24) := by kernel_rfl
/-- Files in a row of one's own. -/
def OwnRF (base : Nat) (w : World) (v : Value) (l : List RN) : Prop := w.ownsRow base 75 2 v l.length (flatRN l)
theorem flatRN_get : ∀ (l : List RN) (j : Nat) (u : Value), (flatRN l)[j]? = some u → ∃ n, l[j / 2]? = some n ∧ ((j % 2 = 0 ∧ u = .string n.1) ∨ (j % 2 = 1 ∧ u = .int .i64 n.2))
  | [], j, u, h => by cases h
  | n :: l, 0, u, h => by cases h; exact ⟨n, rfl, .inl ⟨rfl, rfl⟩⟩
  | n :: l, 1, u, h => by cases h; exact ⟨n, rfl, .inr ⟨rfl, rfl⟩⟩
  | n :: l, j + 2, u, h => by
    have e : flatRN (n :: l) = .string n.1 :: .int .i64 n.2 :: flatRN l := rfl
    rw [e] at h
    obtain ⟨m, h1, h2⟩ := flatRN_get l j u (by simpa using h)
    refine ⟨m, ?_, ?_⟩
    · rw [show (j + 2) / 2 = j / 2 + 1 by omega]; simpa using h1
    · rw [show (j + 2) % 2 = j % 2 by omega]; exact h2
theorem flatRN_nth : ∀ (l : List RN) (j : Nat) (n : RN), l[j]? = some n → (flatRN l)[j * 2]? = some (.string n.1) ∧ (flatRN l)[j * 2 + 1]? = some (.int .i64 n.2)
  | [], j, n, h => by cases h
  | a :: l, 0, n, h => by cases h; exact ⟨rfl, rfl⟩
  | a :: l, j + 1, n, h => by
    have := flatRN_nth l j n (by simpa using h)
    have e : flatRN (a :: l) = .string a.1 :: .int .i64 a.2 :: flatRN l := rfl
    rw [e, show (j + 1) * 2 = j * 2 + 1 + 1 by omega]
    simpa using this
theorem flatRN_append (l m : List RN) : flatRN (l ++ m) = flatRN l ++ flatRN m := by simp [flatRN]
theorem flatRN_length (l : List RN) : (flatRN l).length = l.length * 2 := by
  induction l with
  | nil => rfl
  | cons a l ih => rw [show flatRN (a :: l) = .string a.1 :: .int .i64 a.2 :: flatRN l from rfl]; simp [ih]; omega
theorem flatRN_one (l : List RN) : ∀ u ∈ flatRN l, u.oneCell' = true := by
  intro u hu
  obtain ⟨n, _, h⟩ := List.mem_flatMap.1 hu
  rcases List.mem_cons.1 h with rfl | h
  · rfl
  · rw [List.mem_singleton] at h; subst h; rfl
theorem flatRN_set : ∀ (l : List RN) (i : Nat) (x : RN), flatRN (l.set i x) = ((flatRN l).set (i * 2) (.string x.1)).set (i * 2 + 1) (.int .i64 x.2)
  | [], i, x => by simp [flatRN]
  | a :: l, 0, x => rfl
  | a :: l, i + 1, x => by
    have e : flatRN (a :: l) = .string a.1 :: .int .i64 a.2 :: flatRN l := rfl
    rw [List.set_cons_succ, show flatRN (a :: l.set i x) = .string a.1 :: .int .i64 a.2 :: flatRN (l.set i x) from rfl, flatRN_set l i x, e, show (i + 1) * 2 = i * 2 + 1 + 1 by omega]
    simp
section
variable {base : Nat} {w w' : World} {v : Value} {l : List RN}
theorem OwnRF.slice (h : OwnRF base w v l) : ∃ a c, v = .slice a l.length c := by
  rcases h.2 with ⟨rfl, h0⟩ | ⟨x, cap, cur, rfl, _⟩
  · exact ⟨none, 0, by rw [h0]⟩
  · exact ⟨_, _, rfl⟩
theorem OwnRF.own (h : OwnRF base w v l) : ∀ j, v.ownBlock = some j → base ≤ j := by
  rcases h.2 with ⟨rfl, _⟩ | ⟨x, cap, cur, rfl, hb, _⟩
  · intro j hj; cases hj
  · intro j hj; cases hj; exact hb
theorem OwnRF.names (h : OwnRF base w v l) : RNames w v l := by
  rcases h.2 with ⟨rfl, h0⟩ | ⟨x, cap, cur, rfl, hb, hh, h1, h2, h3, h4⟩
  · exact .inl ⟨rfl, List.length_eq_zero_iff.1 h0⟩
  · refine .inr ⟨x, 0, cap, rfl, (Array.getElem?_eq_some_iff.1 hh).1, fun j n hj => ?_⟩
    have hjl : j < l.length := (List.getElem?_eq_some_iff.1 hj).1
    obtain ⟨f1, f2⟩ := flatRN_nth l j n hj
    rw [← h4, List.getElem?_take_of_lt (by omega)] at f1 f2
    constructor
    · rw [cell_of_row w x (0 + j * 2) cur _ _ hh, ← Array.getElem?_toList, Nat.zero_add]; exact f1
    · rw [cell_of_row w x (0 + j * 2 + 1) cur _ _ hh, ← Array.getElem?_toList, Nat.zero_add]; exact f2
theorem OwnRF.empty (w : World) : OwnRF w.heap.size (w.alloc (.cells #[] 75)) (.slice (some ⟨w.heap.size, 0, none⟩) 0 0) [] :=
  ⟨rfl, .inr ⟨w.heap.size, 0, #[], rfl, Nat.le_refl _, heap_alloc_new w _, Nat.le_refl _, by unfold maxLen; omega, rfl, rfl⟩⟩
theorem OwnRF.cell {g : Addr} {n c : Nat} (h : OwnRF base w (.slice (some g) n c) l) (i : Nat) (hi : i < l.length) :
    g.off = 0 ∧ g.spot = none ∧ base ≤ g.block ∧ g.block < w.heap.size ∧ (∃ a b, w.cell? ⟨g.block, i * 2, none⟩ = some a ∧ w.cell? ⟨g.block, i * 2 + 1, none⟩ = some b) ∧ ∀ k, w.frozen? ⟨g.block, k, none⟩ = false := by
  rcases h.2 with ⟨h1, _⟩ | ⟨x, cap, cur, h1, h2, h3, h4, _, h5, h6⟩
  · cases h1
  · cases h1
    have hl := congrArg List.length h6
    rw [flatRN_length, List.length_take] at hl
    refine ⟨rfl, rfl, h2, (Array.getElem?_eq_some_iff.1 h3).1, ⟨cur[i * 2]'(by have := Array.length_toList (xs := cur); omega), cur[i * 2 + 1]'(by have := Array.length_toList (xs := cur); omega), ?_, ?_⟩, fun k => frozen_of_row w x k cur _ h3⟩
    · rw [cell_of_row w x _ cur _ _ h3]; simp
    · rw [cell_of_row w x _ cur _ _ h3]; simp
theorem OwnRF.set {g : Addr} {n c : Nat} (h : OwnRF base w (.slice (some g) n c) l) (i : Nat) (x : RN) :
    OwnRF base ((w.setCell ⟨g.block, i * 2, none⟩ (.string x.1)).setCell ⟨g.block, i * 2 + 1, none⟩ (.int .i64 x.2)) (.slice (some g) n c) (l.set i x) := by
  have h0 := h.1
  refine ⟨by rw [flatRN_length], ?_⟩
  rcases h.2 with ⟨h1, _⟩ | ⟨y, cap, cur, h1, h2, h3, h4, h4', h5, h6⟩
  · cases h1
  · cases h1
    refine .inr ⟨y, c, (cur.setIfInBounds (i * 2) (.string x.1)).setIfInBounds (i * 2 + 1) (.int .i64 x.2), by rw [List.length_set], h2, heap_setCell_same _ y (i * 2 + 1) _ _ (.int .i64 x.2) (heap_setCell_same w y (i * 2) cur _ (.string x.1) h3), by rw [List.length_set]; exact h4, h4', by simpa using h5, ?_⟩
    rw [List.length_set, Array.toList_setIfInBounds, Array.toList_setIfInBounds, flatRN_set, ← h6, List.take_set, List.take_set]
end
/-- An append of files to what the call owns, from any slice of them, as a step of the walk. -/
theorem wpList_append_rf {ops : Array Oper} {rest : List Oper} {o : Oper} {a : Act} {w w0 : World} {Q : Exit → Act → World → Prop} (hgd : o.guard = none) (s x : Operand)
    (ho : o.op = .call { callee := .builtin .append, args := #[s, x], argTypes := #[28, 28] })
    (base : Nat) (v u : Value) (ys p : List RN) (hs : a.eval s = v) (hown : OwnRF base w v ys) (hx : a.eval x = u) (hp : RNames w0 u p) (hb : Below w0.heap.size w0 w) (hle : ys.length + p.length ≤ 1000000) (hbase : base ≤ w.heap.size)
    (h : ∀ v' w', OwnRF base w' v' (ys ++ p) → w.grownBy w' v.ownBlock → wpList Try.prog ops Q rest (a.put o.dst v') w') : wpList Try.prog ops Q (o :: rest) a w := by
  obtain ⟨i0, hi, hz0, hz1, hz2⟩ := info_parts rfInfo
  rcases hp with ⟨rfl, rfl⟩ | ⟨pb, po, cap, rfl, h3, h4⟩
  · refine wpList_append_own_none hgd s x 28 ho base 75 i0 2 Try.underlying28 hi v ys.length (flatRN ys) hs hown hx ?_
    exact h v w (by rw [List.append_nil]; exact hown) ⟨rfl, rfl, rfl, Nat.le_refl _, fun _ _ _ => rfl⟩
  · refine wpList_append_own w hgd s x 28 ho base 75 i0 (.agg #[.string ⟨#[]⟩, .int .i64 0]) 2 24 Try.underlying28 hi hz0 hz1 hz2 rfl (by decide) v ys.length (flatRN ys) hs hown ⟨pb, po, none⟩ p.length cap (flatRN p) hx
      (flatRN_length p) (fun j u hu => ?_) (flatRN_one p) (by unfold maxLen; omega) (by omega) hbase ?_
    · obtain ⟨n, hn, hc⟩ := flatRN_get p j u hu
      obtain ⟨g1, g2⟩ := h4 _ n hn
      rw [Addr.add_mid, World.cell?_of_block (w := w0) (hb.block pb h3)]
      rcases hc with ⟨hm, rfl⟩ | ⟨hm, rfl⟩
      · rwa [show po + j / 2 * 2 = po + j by omega] at g1
      · rwa [show po + j / 2 * 2 + 1 = po + j by omega] at g2
    · intro v' w' h1 h2 _
      refine h v' w' ?_ h2
      unfold OwnRF
      rw [List.length_append, flatRN_append]; exact h1
/-- One that is empty. -/
def emptyR : RSt := ⟨0, [], [], [], [], 0, 0, []⟩
/-- What 'New' makes, and the error. -/
def newR (room : Int) : RSt × Int := if room < 1 then (emptyR, 1) else if 1048576 < room then (emptyR, 1) else ({ emptyR with room := room, left := -1 }, 0)
theorem RFs.bare (P : Nat → Prop) (w : World) (room left : Int) : RFs P w (.agg #[.int .i64 room, .slice none 0 0, .slice none 0 0, .slice none 0 0, .slice none 0 0, .int .i64 0, .int .i64 left, .slice none 0 0]) { emptyR with room := room, left := left } :=
  RFs.mk (R := { emptyR with room := room, left := left }) (cvs := []) (.inl ⟨rfl, rfl⟩) (.inl ⟨rfl, rfl⟩) (.inl ⟨rfl, rfl⟩) (.inl ⟨rfl, rfl⟩) ⟨rfl, fun i c h => by cases h⟩ (.inl ⟨rfl, rfl⟩)
    (fun k hk => by cases hk) (fun k hk => by cases hk) (fun k hk => by cases hk) (fun k hk => by cases hk) (fun k hk => by cases hk.1)
set_option maxRecDepth 100000 in
set_option maxHeartbeats 2000000 in
theorem refNew_any (P : Nat → Prop) (room : Int) (w : World) :
    Calls Try.prog 7 #[.int .i64 room] w fun e w' => ∃ v', e = .returned (.tuple #[v', .int .i64 (newR room).2]) ∧ RFs P w' v' (newR room).1 ∧ Below w.heap.size w w' := by
  have HN1 : Hid (room < 1 → newR room = (emptyR, 1)) := fun h => if_pos h
  have HN2 : Hid (¬ room < 1 → 1048576 < room → newR room = (emptyR, 1)) := fun h h' => by unfold newR; rw [if_neg h, if_pos h']
  have HN3 : Hid (¬ room < 1 → ¬ 1048576 < room → newR room = ({ emptyR with room := room, left := -1 }, 0)) := fun h h' => by unfold newR; rw [if_neg h, if_neg h']
  have HBB : Hid (∀ A, Below w.heap.size w (w.alloc A)) := fun A => (Below.refl _ _).alloc (Nat.le_refl _) A
  go_enter Try.func7, Try.ntmps7
  by_cases h1 : room < 1
  · go_wp2_with fail
    refine bodyPost_ret (v := .tuple #[.agg #[.int .i64 0, .slice none 0 0, .slice none 0 0, .slice none 0 0, .slice none 0 0, .int .i64 0, .int .i64 0, .slice none 0 0], .int .i64 1]) (by simp [results, Try.results7, go_sem]) rfl ⟨_, by rw [HN1.out h1], ?_, HBB.out _⟩
    rw [HN1.out h1]; exact RFs.bare P _ 0 0
  by_cases h2 : 1048576 < room
  · go_wp2_with fail
    refine bodyPost_ret (v := .tuple #[.agg #[.int .i64 0, .slice none 0 0, .slice none 0 0, .slice none 0 0, .slice none 0 0, .int .i64 0, .int .i64 0, .slice none 0 0], .int .i64 1]) (by simp [results, Try.results7, go_sem]) rfl ⟨_, by rw [HN2.out h1 h2], ?_, HBB.out _⟩
    rw [HN2.out h1 h2]; exact RFs.bare P _ 0 0
  · go_wp2_with fail
    refine bodyPost_ret (v := .tuple #[.agg #[.int .i64 room, .slice none 0 0, .slice none 0 0, .slice none 0 0, .slice none 0 0, .int .i64 0, .int .i64 (-1), .slice none 0 0], .int .i64 0]) (by simp [results, Try.results7, go_sem]) rfl ⟨_, by rw [HN3.out h1 h2], ?_, HBB.out _⟩
    rw [HN3.out h1 h2]; exact RFs.bare P _ room (-1)
/-- The bytes of the file with this number. -/
def szR (R : RSt) (i : Int) : Nat := ((R.files.getD i.toNat (⟨#[]⟩, 0)).1).size
/-- What 'Used' answers. -/
def usedR (R : RSt) : Nat := (R.dir.map fun x => szR R x.2).sum
/-- Its names are of files that are there; files are of a size. -/
structure RWell (R : RSt) : Prop where
  dir : ∀ x ∈ R.dir, 0 ≤ x.2 ∧ x.2 < R.files.length
  size : ∀ f ∈ R.files, f.1.size ≤ 1000000
theorem sum_take (l : List RN) (g : RN → Nat) {i : Nat} (hi : i < l.length) : ((l.take (i + 1)).map g).sum = ((l.take i).map g).sum + g l[i] := by
  rw [List.take_succ_eq_append_getElem hi, List.map_append, List.sum_append]; show _ + (g l[i] + 0) = _; rw [Nat.add_zero]
theorem sum_le (l : List RN) (g : RN → Nat) (B : Nat) (h : ∀ x, g x ≤ B) : (l.map g).sum ≤ l.length * B := by
  induction l with
  | nil => simp
  | cons a l ih => have := h a; simp [Nat.succ_mul]; omega
set_option maxRecDepth 100000 in
set_option maxHeartbeats 2000000 in
theorem refUsed_any {P : Nat → Prop} (v : Value) (R : RSt) (w : World) (h : RFs P w v R) (hk : ROk R) (hw : RWell R) :
    Calls Try.prog 31 #[v] w fun e w' => e = .returned (.int .i64 (usedR R : Nat)) ∧ Below w.heap.size w w' := by
  obtain ⟨fa, fc, da, dc, sa, sc, ca, cc, pa, pc, cvs, rfl, h1, h2, -⟩ := h.parts
  have HB : Hid (∀ A, Below w.heap.size w (w.alloc A)) := fun A => (Below.refl _ _).alloc (Nat.le_refl _) A
  have H1 := Lib.hid h1
  have H2 := Lib.hid h2
  have HD := Lib.hid hk.dir
  have HW := Lib.hid hw
  have hsz : ∀ x : RN, szR R x.2 ≤ 1000000 := fun x => by
    unfold szR
    rw [List.getD_eq_getElem?_getD]
    cases e : R.files[x.2.toNat]? with
    | none => exact Nat.zero_le _
    | some f => exact hw.size f (List.mem_of_getElem? e)
  have HSZ := Lib.hid hsz
  clear h hk hw h1 h2 hsz
  go_enter Try.func31, Try.ntmps31
  go_wp2_with fail
  refine wp_world fun wB hwB => ?_
  have hBB : Below w.heap.size w wB := by rw [hwB]; exact HB.out _
  have hK0 : Blk wB w.heap.size 33 [.int .i64 R.room, .slice fa R.files.length fc, .slice da R.dir.length dc, .slice sa R.sure.length sc, .slice ca R.changes.length cc, .int .i64 R.steps, .int .i64 R.left, .slice pa R.plan.length pc] := by rw [hwB]; exact Blk.new w 33 _
  have HBB := Lib.hid hBB
  have HK0 := Lib.hid hK0
  clear hwB hBB hK0
  go_loopw [3, 8] (fun s3 s8 wr => ∃ i : Nat, i ≤ R.dir.length ∧ s8 = .int .i64 i ∧ s3 = .int .i64 (((R.dir.take i).map fun x => szR R x.2).sum : Nat) ∧ Below wB.heap.size wB wr)
    (fun _ s8 _ => R.dir.length - (intOf s8).toNat)
  case atStart => exact ⟨0, Nat.zero_le _, rfl, rfl, Below.refl _ _⟩
  case round =>
    obtain ⟨i, hi, rfl, rfl, hbr⟩ := hrel
    by_cases hlt : i < R.dir.length
    · have li : (i : Int) < R.dir.length := by omega
      have hb2 := HBB.out.trans (hbr.mono HBB.out.size)
      have hs0 := sum_take R.dir (fun x => szR R x.2) hlt
      have hs1 := sum_le (R.dir.take i) (fun x => szR R x.2) 1000000 (fun x => HSZ.out x)
      have hs2 := HSZ.out R.dir[i]
      have hmem := HW.out.dir R.dir[i] (List.getElem_mem hlt)
      rw [List.length_take] at hs1
      rcases H2.out.below hb2 with ⟨_, h0⟩ | ⟨b, o, cap, hv, hb, hc⟩
      · rw [h0] at hlt; simp at hlt
      cases hv
      have hcc := hc i _ (List.getElem?_eq_getElem hlt)
      generalize R.dir[i] = x at hs0 hs2 hmem hcc
      obtain ⟨xs, xf⟩ := x
      simp only at hs0 hs2 hmem hcc
      obtain ⟨k, rfl⟩ : ∃ k : Nat, xf = k := ⟨xf.toNat, by omega⟩
      have hkl : k < R.files.length := by omega
      have lk : (k : Int) < R.files.length := by omega
      rcases H1.out.below hb2 with ⟨_, h0⟩ | ⟨b', o', cap', hv', hb', hc'⟩
      · rw [h0] at hkl; simp at hkl
      cases hv'
      have hcf := hc' k _ (List.getElem?_eq_getElem hkl)
      have hsz : szR R (k : Int) = (R.files[k]).1.size := by unfold szR; simp [List.getD_eq_getElem?_getD, List.getElem?_eq_getElem hkl]
      rw [hsz] at hs0 hs2
      generalize R.files[k] = f at hs0 hs2 hcf
      obtain ⟨fd, fs⟩ := f
      simp only at hs0 hs2 hcf
      obtain ⟨c1, c2⟩ := hcc
      obtain ⟨c3, c4⟩ := hcf
      have hk0 := (show Blk wr w.heap.size 33 _ from (hbr.block _ HK0.out.lt).trans HK0.out)
      have x1 := hk0.cell (i := 1) rfl
      have x2 := hk0.cell (i := 2) rfl
      have hdl := HD.out
      generalize ((R.dir.take i).map fun x => szR R x.2).sum = t at hs0 hs1 ⊢
      have ht : t ≤ 5000000000 := by
        have : min i R.dir.length * 1000000 ≤ 5000 * 1000000 := Nat.mul_le_mul_right _ (by omega)
        omega
      have hadd : wrap64 ((t : Int) + (fd.size : Nat)) = (t : Int) + (fd.size : Nat) := by unfold wrap64; omega
      have HS0 := Lib.hid hs0
      have HBR := Lib.hid hbr
      clear hk0 hb hc hb' hc' hb2 hs0 hs1 hsz hbr
      go_upto_region 5 with fail
      go_quiet (fail)
      generalize hwA : wr.drewN nq = wA
      have hbA : Below wB.heap.size wB wA := by rw [← hwA]; exact Below.drewN HBR.out _
      clear hwA c1 c2 c3 c4 x1 x2
      go_wp2_with fail
      go_roundw
      case rel => exact ⟨i + 1, by omega, by go_num, by rw [HS0.out]; simp, hbA⟩
      case measure => simp [intOf]; omega
    · have li : ¬ ((i : Int) < R.dir.length) := by omega
      have HT := Lib.hid (show ((R.dir.take i).map fun x => szR R x.2).sum = usedR R by rw [List.take_of_length_le (by omega)]; rfl)
      have HBR := Lib.hid hbr
      generalize ((R.dir.take i).map fun x => szR R x.2).sum = t at HT ⊢
      clear hbr
      go_wp2_with fail
      go_ret
      exact ⟨by rw [HT.out]; rfl, HBB.out.trans (HBR.out.mono HBB.out.size)⟩
end Go.Proofs.Ytpfbiijcmmkjlaa
