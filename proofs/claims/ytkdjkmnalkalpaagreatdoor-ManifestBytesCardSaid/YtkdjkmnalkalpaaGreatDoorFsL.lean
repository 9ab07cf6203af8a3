/- Package simfs: 'add', 'Used', 'Append'. Package simfs: 'Append', 'Plan'. -/
import Derived.Test.YtkdjkmnalkalpaaGreatDoorFsJ
import Derived.Laws.AppendOwnNone
namespace Go.Proofs.YtkdjkmnalkalpaaGreatDoor
open Go.RowKit Go.Maps Go.WideMaps
set_option maxRecDepth 100000

def Live (v : Value) (k : Nat) : Prop := v.ownBlock = some k ∧ ∀ a, v ≠ .slice a 0 0
def Bytes (w : World) (v : Value) (p : List Int) : Prop :=
  (v = .slice none 0 0 ∧ p = []) ∨ (∃ a, v = .slice (some a) 0 0 ∧ p = []) ∨ ∃ pb po cap, v = .slice (some ⟨pb, po, none⟩) p.length cap ∧ p.length ≤ cap ∧ pb < w.heap.size ∧ w.rangeAt pb po (p.map (Value.int .u8))
theorem Bytes.same {w w' : World} {v : Value} {p : List Int} (h : Bytes w v p) (hs : ∀ k, k < w.heap.size → Live v k → w'.heap[k]? = w.heap[k]?) (hz : w.heap.size ≤ w'.heap.size) : Bytes w' v p := by
  rcases h with h | h | ⟨pb, po, cap, rfl, h2, h3, h4⟩
  · exact Or.inl h
  · exact Or.inr (Or.inl h)
  · by_cases hc : cap = 0
    · subst hc
      obtain rfl : p = [] := List.length_eq_zero_iff.1 (by omega)
      exact Or.inr (Or.inl ⟨_, rfl, rfl⟩)
    · exact Or.inr (Or.inr ⟨pb, po, cap, rfl, h2, Nat.lt_of_lt_of_le h3 hz, fun j u hu => by rw [World.cell?_of_block (w := w) (hs pb h3 ⟨rfl, fun a e => by injection e with _ _ e; exact hc e⟩)]; exact h4 j u hu⟩)
theorem Bytes.below {w w' : World} {v : Value} {p : List Int} (h : Bytes w v p) (hb : Below w.heap.size w w') : Bytes w' v p := h.same (fun k hk _ => hb.block k hk) hb.size
theorem Bytes.slice {w : World} {v : Value} {p : List Int} (h : Bytes w v p) : ∃ a c, v = .slice a p.length c := by
  rcases h with ⟨rfl, rfl⟩ | ⟨a, rfl, rfl⟩ | ⟨pb, po, cap, rfl, _⟩
  · exact ⟨_, _, rfl⟩
  · exact ⟨_, _, rfl⟩
  · exact ⟨_, _, rfl⟩
theorem OwnD.bytes {w : World} {base : Nat} {v : Value} {p : List Int} (h : w.ownsRow base 5 1 v p.length (p.map (Value.int .u8))) : Bytes w v p := by
  rcases h.2 with ⟨h0, h1⟩ | ⟨g, cap, cur, hv, _, hh, hn, _, hcs, hxs⟩
  · exact Or.inl ⟨h0, List.length_eq_zero_iff.1 h1⟩
  · refine Or.inr (Or.inr ⟨g, 0, cap, hv, hn, heap_lt hh, fun j u hu => ?_⟩)
    rw [cell_of_row w g (0 + j) cur 5 (0, 0) hh, ← Array.getElem?_toList]
    rw [← hxs] at hu
    rw [List.getElem?_take] at hu
    split at hu
    · rw [Nat.zero_add]; exact hu
    · cases hu
theorem byteInfo : (Tryz.prog.info? 5).map (fun i => (i.zero, i.size, i.bytes)) = some (some (.int .u8 0), 1, 1) := by kernel_rfl
theorem wpList_append_D {w : World} {ops : Array Oper} {rest : List Oper} {o : Oper} {a : Act} {Q : Exit → Act → World → Prop} (hgd : o.guard = none) (s x : Operand)
    (ho : o.op = .call { callee := .builtin .append, args := #[s, x], argTypes := #[38, 38] })
    (v u : Value) (ys p : List Int) (hs : a.eval s = v) (hown : OwnD w v ys) (hx : a.eval x = u) (hp : Bytes w u p) (hle : ys.length + p.length ≤ 1000000)
    (h : ∀ v' w', OwnD w' v' (ys ++ p) → w.grownBy w' v.ownBlock → (v'.ownBlock = v.ownBlock ∨ v'.ownBlock = some w.heap.size) → wpList Tryz.prog ops Q rest (a.put o.dst v') w') : wpList Tryz.prog ops Q (o :: rest) a w := by
  obtain ⟨i0, hi, hz0, hz1, hz2⟩ := info_parts byteInfo
  rcases hp with ⟨rfl, rfl⟩ | ⟨wa, rfl, rfl⟩ | ⟨pb, po, cap, rfl, h2, h3, h4⟩
  · refine wpList_append_own_none hgd s x 38 ho 0 5 i0 1 Tryz.underlying38 hi v ys.length (ys.map (Value.int .u8)) hs hown hx ?_
    exact h v w (by rw [List.append_nil]; exact hown) ⟨rfl, rfl, rfl, Nat.le_refl _, fun _ _ _ => rfl⟩ (.inl rfl)
  · refine wpList_append_own_at w hgd s x 38 ho 0 5 i0 (.int .u8 0) 1 1 Tryz.underlying38 hi hz0 hz1 hz2 rfl (by decide) v ys.length (ys.map (Value.int .u8)) hs hown wa 0 0 ([].map (Value.int .u8)) hx
      (by simp) (fun j u hu => by cases hu) (fun u hu => by cases hu) (by unfold maxLen; omega) (by omega) (Nat.zero_le _) ?_
    intro v' w' h1 h2 _ h3
    refine h v' w' ?_ h2 h3
    unfold OwnD
    rw [List.length_append, List.map_append]; exact h1
  · refine wpList_append_own_at w hgd s x 38 ho 0 5 i0 (.int .u8 0) 1 1 Tryz.underlying38 hi hz0 hz1 hz2 rfl (by decide) v ys.length (ys.map (Value.int .u8)) hs hown ⟨pb, po, none⟩ p.length cap (p.map (Value.int .u8)) hx
      (by simp) (fun j u hu => by rw [Addr.add_mid]; exact h4 j u hu) (ones_int _ _) (by unfold maxLen; omega) (by omega) (Nat.zero_le _) ?_
    intro v' w' h1 h2 _ h3
    refine h v' w' ?_ h2 h3
    unfold OwnD
    rw [List.length_append, List.map_append]; exact h1
def setF (A : FsA) (b : Nat) (f : Fil) : FsA := { A with file := fun k => if k = b then some f else A.file k }

set_option maxRecDepth 100000 in
set_option maxHeartbeats 2000000 in
theorem add_any (g : Nat) (S : Nat → Prop) (A : FsA) (b : Nat) (f : Fil) (v : Value) (p : List Int) (w : World) (h : Fs w g S A) (hf : A.file b = some f) (hp : Bytes w v p) (hl : f.data.length + p.length ≤ 1000000) :
    Calls Tryz.prog 102 #[.pointer (some ⟨b, 0, none⟩), v] w fun e w' => e = .returned (.tuple #[]) ∧ Fs w' g (grow S w w') (setF A b { f with data := f.data ++ p }) ∧ Keep S w w' := by
  obtain ⟨pv, bn, bs, sv, vs, dv, hM⟩ := h
  obtain ⟨hfa, hfS, hfd⟩ := hM.file b f hf
  obtain ⟨da, dc, hde⟩ := own_slice hfa.2
  obtain ⟨va, vc, rfl⟩ := hp.slice
  have c1 := hfa.1.cell (i := 1) rfl
  have HFA := Lib.hid hfa
  have HOWN := Lib.hid hfa.2
  rw [hde] at c1 HOWN
  have HM := Lib.hid hM
  have HP := Lib.hid hp
  have HF := Lib.hid hf
  have HL := Lib.hid hl
  have HDE := Lib.hid hde
  have HFD := Lib.hid hfd
  have HFS := Lib.hid hfS
  clear hM hfa hfS hfd hp hf hl hde
  go_enter Tryz.func102, Tryz.ntmps102
  go_wp2_with (with_reducible refine wpList_append_D rfl (.tmp 8) (.tmp 9) rfl (.slice da f.data.length dc) (.slice va p.length vc) f.data p rfl HOWN.out rfl HP.out HL.out ?_)
  intro v' w1 ho1 hg1 hloc
  obtain ⟨na, nc, rfl⟩ := own_slice ho1
  rw [List.length_append] at ho1 hloc ⊢
  have hbne : ∀ x, (Value.slice da f.data.length dc).ownBlock = some x → b ≠ x := fun x hx => by obtain ⟨cur, hcur⟩ := OwnD.blk HOWN.out x hx; exact kind_ne HFA.out.1 hcur (fun e => by injection e with _ e2 _; exact absurd e2 (by decide))
  have hsame : ∀ k, k < w.heap.size → (∀ x, (Value.slice da f.data.length dc).ownBlock = some x → k ≠ x) → w1.heap[k]? = w.heap[k]? := fun k hk hne => hg1.block k hk (fun e => hne k e.symm rfl)
  have hb1 : Blk w1 b 180 [.int .i64 f.num, dv b, .int .i64 f.sure] := Blk.of (hsame b HFA.out.1.lt hbne) HFA.out.1
  have f1 := hb1.frozen 1
  have c1' := hb1.cell (i := 1) rfl
  have hset := hb1.set 1 (.slice na (f.data.length + p.length) nc)
  have hso : ∀ k, k ≠ b → (w1.setCell ⟨b, 1, none⟩ (.slice na (f.data.length + p.length) nc)).heap[k]? = w1.heap[k]? := fun k hk => heap_setCell_other w1 ⟨b, 1, none⟩ k _ hk
  have hszf : (w1.setCell ⟨b, 1, none⟩ (.slice na (f.data.length + p.length) nc)).heap.size = w1.heap.size := by simp [World.setCell]
  have hown' : OwnD (w1.setCell ⟨b, 1, none⟩ (.slice na (f.data.length + p.length) nc)) (.slice na (f.data.length + p.length) nc) (f.data ++ p) :=
    ownsRow_to ho1 fun k cur e _ => hso k (kind_ne e hb1 (fun e => by injection e with _ e2 _; exact absurd e2 (by decide)))
  have hnew : ∀ k, (Value.slice na (f.data.length + p.length) nc).ownBlock = some k → grow S w (w1.setCell ⟨b, 1, none⟩ (.slice na (f.data.length + p.length) nc)) k := by
    intro k hk
    rcases hloc with h | h
    · exact .inl (HFD.out k (by rw [HDE.out, ← h]; exact hk))
    · have h1 := Option.some.inj (hk.symm.trans h)
      obtain ⟨cur, hcur⟩ := OwnD.blk ho1 k hk
      exact .inr ⟨by omega, by rw [hszf]; exact heap_lt hcur⟩
  have HFIN := Lib.hid (HM.out.setFile HF.out (f' := { f with data := f.data ++ p }) (d' := .slice na (f.data.length + p.length) nc) (T := grow S w (w1.setCell ⟨b, 1, none⟩ (.slice na (f.data.length + p.length) nc))) grow_left
    (fun k hk hkb hne => (hso k hkb).trans (hsame k hk (by rw [← HDE.out]; exact hne))) ⟨hset, hown'⟩ hnew (by
      rcases hloc with h | h
      · exact .inl (by rw [HDE.out]; exact h)
      · exact .inr fun k hk => by rw [h] at hk; cases hk; exact Nat.le_refl _))
  have HKF : Hid (Keep S w (w1.setCell ⟨b, 1, none⟩ (.slice na (f.data.length + p.length) nc))) :=
    (Keep.of_grown hg1 (fun x hx => HFD.out x (by rw [HDE.out]; exact hx)) : Keep S w w1).trans' ⟨rfl, rfl, rfl, by rw [hszf]; exact Nat.le_refl _, fun k _ hk => hso k (fun e => hk (by rw [e]; exact HFS.out))⟩
  clear hbne hsame hb1 hset hso hszf hown' hnew ho1 hg1 hloc
  go_wp2_with fail
  go_end0
  exact ⟨rfl, ⟨_, _, _, _, _, _, HFIN.out⟩, HKF.out⟩

def OkD (fl : Nat → Option Fil) (D : DataW Unit) : Prop := ∃ es, D = .map es ∧ ∀ p ∈ es, ∃ (s : ByteArray) (b : Nat) (f : Fil), p.1 = keyL s ∧ s.size ≤ 20 ∧ p.2 = .lit (.int .i64 (b : Nat)) ∧ fl b = some f
theorem OkD.named {A : FsA} (h : OkD A.file A.now) : Named A := by
  intro s b hd
  obtain ⟨es, he, hp⟩ := h
  unfold dget at hd
  rw [he] at hd
  unfold DataW.atKey at hd
  cases hf : es.find? (fun p => p.1.sameKey (keyL s)) with
  | none => simp [hf] at hd
  | some p =>
    simp only [hf] at hd
    obtain ⟨s', b', f, _, _, h2, h3⟩ := hp p (List.mem_of_find?_eq_some hf)
    simp only [h2] at hd
    have : b' = b := by simpa using hd
    exact ⟨f, by rw [← this]; exact h3⟩
def usedA (A : FsA) : Nat := usedD A.file A.now
set_option maxRecDepth 100000 in
set_option maxHeartbeats 1000000 in
theorem used_any (g : Nat) (S : Nat → Prop) (A : FsA) (w : World) (h : Fs w g S A) (hok : OkD A.file A.now) (hsh : Short A) (hn : Maps.size A.now < 100000) :
    Calls Tryz.prog 60 #[.pointer (some ⟨g, 0, none⟩)] w fun e w' => e = .returned (.int .i64 (usedA A : Nat)) ∧ Below w.heap.size w w' := by
  obtain ⟨pv, bn, bs, sv, vs, dv, hM⟩ := h
  have c6 := hM.row.cell (i := 6) rfl
  obtain ⟨es, he, hp⟩ := hok
  have hnow := hM.now
  rw [he] at hnow hn
  have HSZ := Lib.hid (size_any bn es A.file dv w hnow (fun p hpm => by
    obtain ⟨_, b, f, _, _, h2, h3⟩ := hp p hpm
    exact ⟨b, f, h2, h3, (hM.file b f h3).1.1, (hM.file b f h3).1.2, (hsh b f h3).1⟩) hn fun b f hf => (hsh b f hf).1)
  have HU : Hid (usedA A = tot A.file es (fun _ => true)) := by show _ = _; unfold usedA; rw [he]; rfl
  rw [HU.out]
  clear hM hnow hp he hn hsh
  go_enter Tryz.func60, Tryz.ntmps60
  go_wp2_with fail
  refine HSZ.out.mono ?_; rintro e w1 ⟨rfl, hb1⟩
  go_wp2_with fail
  go_ret
  exact ⟨rfl, hb1⟩
end Go.Proofs.YtkdjkmnalkalpaaGreatDoor
namespace Go.Proofs.YtkdjkmnalkalpaaGreatDoor
open Go.RowKit Go.Maps Go.WideMaps
set_option maxRecDepth 100000

theorem Bytes.take {w : World} {pb po cap : Nat} {p : List Int} (h : Bytes w (.slice (some ⟨pb, po, none⟩) p.length cap) p) (k : Nat) (hk : k ≤ p.length) : Bytes w (.slice (some ⟨pb, po, none⟩) k cap) (p.take k) := by
  rcases h with ⟨h, _⟩ | ⟨a, h1, rfl⟩ | ⟨pb', po', cap', h1, h2, h3, h4⟩
  · cases h
  · cases h1
    obtain rfl : k = 0 := by simpa using hk
    exact .inr (.inl ⟨_, rfl, rfl⟩)
  · cases h1
    have hl : (p.take k).length = k := by simp; omega
    refine .inr (.inr ⟨pb, po, cap, by rw [hl], by omega, h3, fun j u hu => h4 j u ?_⟩)
    rw [List.getElem?_map] at hu ⊢
    cases hj : (p.take k)[j]? with
    | none => rw [hj] at hu; cases hu
    | some x =>
      rw [hj] at hu
      have hjk : j < k := by have := (List.getElem?_eq_some_iff.1 hj).1; omega
      rw [List.getElem?_take_of_lt hjk] at hj
      rw [hj]; exact hu
def withData (A : FsA) (b : Nat) (f : Fil) (p : List Int) : FsA := setF A b { f with data := f.data ++ p }
def putA (A : FsA) (b : Nat) (f : Fil) (p : List Int) : FsA × Int :=
  if 65536 < f.data.length + p.length then (A, 5) else
  if (stepA A).2.2 = 0 then
    (if A.room - (usedA A : Int) < p.length then ((stepA A).1, 21) else (withData (stepA A).1 b f p, 0))
  else (withData (stepA A).1 b f (p.take (partOf (stepA A).2.1 p.length (A.room - (usedA A : Int))).toNat), (stepA A).2.2)
def appendA (A : FsA) (s : ByteArray) (p : List Int) : FsA × Int :=
  match findA A s with
  | (some b, 0) => (match A.file b with
    | some f => putA A b f p
    | none => (A, 0))
  | (_, c) => (A, c)
theorem howOf_nonneg (p : List Int) : 0 ≤ howOf p := by unfold howOf; split <;> omega
def PlanOk (A : FsA) : Prop := ∀ k ∈ A.plan, k ≤ 9223372036854775807
theorem stepA_how (A : FsA) (h : PlanOk A) : 0 ≤ (stepA A).2.1 ∧ (stepA A).2.1 ≤ 9223372036854775807 := by
  unfold stepA
  split
  · exact ⟨by simp, by simp⟩
  · refine ⟨howOf_nonneg _, ?_⟩
    show howOf A.plan ≤ _
    cases hp : A.plan with
    | nil => unfold howOf; simp
    | cons k l =>
      have := h k (by rw [hp]; simp)
      by_cases hk : k < 0
      · rw [show howOf (k :: l) = 1 from if_pos hk]; omega
      · rw [show howOf (k :: l) = k from if_neg hk]; exact this

set_option maxRecDepth 100000 in
set_option maxHeartbeats 8000000 in
theorem append_any (g : Nat) (S : Nat → Prop) (A : FsA) (s : ByteArray) (v : Value) (p : List Int) (w : World) (h : Fs w g S A) (hn : Num A) (hpo : PlanOk A) (hok : OkD A.file A.now) (hsh : Short A) (hsz : Maps.size A.now < 100000) (hr : 1 ≤ A.room ∧ A.room ≤ 1048576)
    (hs : s.size ≤ 9223372036854775807) (hp : Bytes w v p) (hpl : p.length ≤ 500000) (hvS : ∀ x, Live v x → ¬ S x) :
    Calls Tryz.prog 35 #[.pointer (some ⟨g, 0, none⟩), .string s, v] w fun e w' => e = .returned (.int .i64 (appendA A s p).2) ∧ Fs w' g (grow S w w') (appendA A s p).1 ∧ Keep S w w' := by
  have HF := Lib.hid h
  have HNUM := Lib.hid hn
  have HPO := Lib.hid hpo
  have HOK := Lib.hid hok
  have HSH := Lib.hid hsh
  have HSZ := Lib.hid hsz
  have HR0 := Lib.hid hr
  have HFI := Lib.hid (find_any g S A s w h hs)
  obtain ⟨va, vc, rfl⟩ := hp.slice
  have HP := Lib.hid hp
  have HVS := Lib.hid hvS
  clear h hn hpo hok hsh hsz hr hp hvS
  go_enter Tryz.func35, Tryz.ntmps35
  by_cases hc : (findA A s).2 = 0
  · obtain ⟨b, f, hfi, hfb⟩ := findA_ok hc HOK.out.named
    have HR : Hid (appendA A s p = putA A b f p) := by show _ = _; unfold appendA; rw [hfi]; simp only [hfb]
    have HLEN := Lib.hid (HSH.out b f hfb).1
    rw [hfi] at HFI
    have HFB := Lib.hid hfb
    clear hc hfi hfb
    have HFI' : Hid (Calls Tryz.prog 101 #[.pointer (some ⟨g, 0, none⟩), .string s] w fun e w' => e = .returned (.tuple #[.pointer (some ⟨b, 0, none⟩), .int .i64 0]) ∧ Below w.heap.size w w') := HFI.out
    clear HFI
    go_wp2_with fail
    refine HFI'.out.mono ?_; rintro e w1 ⟨rfl, hb1⟩
    have hF1 := HF.out.below hb1
    have HF1 := Lib.hid hF1
    have HB1 := Lib.hid hb1
    have HP1 := Lib.hid (HP.out.below hb1)
    obtain ⟨pv, bn, bs, sv, vs, dv, hM⟩ := hF1
    obtain ⟨hfa, hfS, hfd⟩ := hM.file b f HFB.out
    obtain ⟨da, dc, hde⟩ := own_slice hfa.2
    have c1 := hfa.1.cell (i := 1) rfl
    rw [hde] at c1
    have HROW := Lib.hid hM.row
    have hlen := HLEN.out
    have hwr : IntKind.i64.wrap ((f.data.length : Int) + (p.length : Int)) = f.data.length + p.length := IntWalk.i64_in _ (by omega)
    clear hM hfa hfS hfd hde hb1
    by_cases hlong : 65536 < f.data.length + p.length
    · have HPUT : Hid (putA A b f p = (A, 5)) := by show _ = _; unfold putA; rw [if_pos hlong]
      have hlong' : (65536 : Int) < (f.data.length : Int) + (p.length : Int) := by omega
      clear hlong
      go_wp2_with fail
      go_ret
      exact ⟨ret_int (by rw [HR.out, HPUT.out]), by rw [HR.out, HPUT.out]; exact HF1.out.to grow_left fun _ _ _ => rfl, Keep.of_below HB1.out⟩
    · have hlong' : (f.data.length : Int) + (p.length : Int) ≤ 65536 := by omega
      have HLG := Lib.hid hlong
      clear hlong
      go_wp2_with fail
      have hrl := HROW.out.lt
      have k4 : ∀ W, Below w1.heap.size w1 W → W.cell? ⟨g, 4, none⟩ = some (.int .i64 A.room) := fun W hb => (hb.cell (p := ⟨g, 4, none⟩) hrl).trans (HROW.out.cell (i := 4) rfl)
      have cU : ∀ W, Below w1.heap.size w1 W → Calls Tryz.prog 60 #[.pointer (some ⟨g, 0, none⟩)] W fun e w' => e = .returned (.int .i64 (usedA A : Nat)) ∧ Below W.heap.size W w' := fun W hb =>
        used_any g S A W (HF1.out.below hb) HOK.out HSH.out HSZ.out
      have hub : usedA A ≤ 65536 * 100000 := by
        obtain ⟨es, he, _⟩ := HOK.out
        have h1 := tot_le A.file (fun b f hf => (HSH.out b f hf).1) (fun _ => true) es
        have h2 := HSZ.out
        unfold usedA; rw [he] at h2 ⊢
        rw [size_eq] at h2
        simp only [usedD]
        omega
      have hrm := HR0.out
      have hsub : IntKind.i64.wrap (A.room - (usedA A : Int)) = A.room - (usedA A : Int) := IntWalk.i64_in _ (by omega)
      have HCU := Lib.hid cU
      have HSUB := Lib.hid hsub
      clear cU hsub
      refine wp_region_quiet (C := fun W => Below w1.heap.size w1 W) (by kernel_rfl) (by kernel_rfl) ⟨rfl, rfl, rfl, Nat.le_refl _, fun _ _ => rfl⟩ ?_
      refine wpQuiet_run (.pointer (some ⟨g, 0, none⟩)) rfl (fun w' hb => by go_simp) ?_
      refine wpQuiet_run (.pointer (some ⟨g, 0, none⟩)) rfl (fun w' hb => by go_simp) ?_
      refine wpQuiet_run (.pointer (some ⟨g, 4, none⟩)) rfl (fun w' hb => by go_simp) ?_
      refine wpQuiet_run (.int .i64 A.room) rfl (fun w' hb => by have := k4 w' hb; go_simp) ?_
      refine wpQuiet_run (.pointer (some ⟨g, 0, none⟩)) rfl (fun w' hb => by go_simp) ?_
      refine wpQuiet_step (fun K hK => ?_); go_simp; refine ⟨.int .i64 (usedA A : Nat), fun w' hb => (HCU.out w' hb).mono fun e w'' ⟨he, hb'⟩ => ⟨he, hb.trans (hb'.mono hb.size)⟩, hK _ ?_⟩; clear hK K
      refine wpQuiet_run (.int .i64 (A.room - (usedA A : Int))) rfl (fun w' hb => by have := HSUB.out; go_simp) ?_
      refine wpQuiet_run (.int .i64 (A.room - (usedA A : Int))) rfl (fun w' hb => by go_simp) ?_
      refine wpQuiet_nil ?_
      intro w2 hb2
      have HF2 := Lib.hid (HF1.out.below hb2)
      have HP2 := Lib.hid (HP1.out.below hb2)
      have hB2 := HB1.out.trans (hb2.mono HB1.out.size)
      have HB2 := Lib.hid hB2
      obtain ⟨rm, hrmv⟩ : ∃ rm, rm = A.room - (usedA A : Int) := ⟨_, rfl⟩
      have HPUT0 : Hid (putA A b f p = if (stepA A).2.2 = 0 then (if rm < p.length then ((stepA A).1, 21) else (withData (stepA A).1 b f p, 0)) else (withData (stepA A).1 b f (p.take (partOf (stepA A).2.1 p.length rm).toNat), (stepA A).2.2)) := by
        show _ = _
        unfold putA; rw [if_neg HLG.out, hrmv]
      rw [← hrmv]
      have hrb : -6553600000 ≤ rm ∧ rm ≤ 1048576 := by omega
      clear hrmv hb2 hB2 k4 hrl c1 hwr hub hrm
      go_wp2_with fail
      refine (step_any g S A w2 HF2.out HNUM.out).mono ?_; rintro e w3 ⟨rfl, hF3, hb3⟩
      have HK3 := Lib.hid ((Keep.of_below HB2.out : Keep S w w2).trans' (Keep.of_but hb3 HF.out.gS))
      have HF3 := Lib.hid hF3
      have HSAME := Lib.hid (stepA_same A)
      have HHOW := Lib.hid (stepA_how A HPO.out)
      have HP3 := Lib.hid (HP2.out.same (w' := w3) (fun k hk ho => hb3.block k hk (fun e => HVS.out k ho (by rw [e]; exact HF.out.gS))) hb3.size)
      clear hF3 hb3
      by_cases he : (stepA A).2.2 = 0
      · by_cases hfull : rm < p.length
        · have HPUT : Hid (putA A b f p = ((stepA A).1, 21)) := by show _ = _; rw [HPUT0.out, if_pos he, if_pos hfull]
          generalize stepA A = st at *
          obtain ⟨A3, k3, e3⟩ := st
          simp only at he HPUT HF3 HSAME HHOW
          subst he
          go_wp2_with fail
          go_ret
          exact ⟨ret_int (by rw [HR.out, HPUT.out]), by rw [HR.out, HPUT.out]; exact HF3.out.to grow_left fun _ _ _ => rfl, HK3.out⟩
        · have HPUT : Hid (putA A b f p = (withData (stepA A).1 b f p, 0)) := by show _ = _; rw [HPUT0.out, if_pos he, if_neg hfull]
          have hroom : (p.length : Int) ≤ rm := by omega
          generalize stepA A = st at *
          obtain ⟨A3, k3, e3⟩ := st
          simp only at he HPUT HF3 HSAME HHOW
          subst he
          have HADD := Lib.hid (add_any g S A3 b f _ p w3 HF3.out (by rw [HSAME.out.2.2.2.1]; exact HFB.out) HP3.out (by omega))
          clear hfull
          go_wp2_with fail
          refine HADD.out.mono ?_; rintro e w4 ⟨rfl, hF4, hK4⟩
          have HF4 := Lib.hid hF4
          have HK4 := Lib.hid hK4
          clear hF4 hK4
          go_wp2_with fail
          go_ret
          exact ⟨ret_int (by rw [HR.out, HPUT.out]), by rw [HR.out, HPUT.out]; exact grow_two HF4.out HK3.out.size, HK3.out.trans' HK4.out⟩
      · have HPUT : Hid (putA A b f p = (withData (stepA A).1 b f (p.take (partOf (stepA A).2.1 p.length rm).toNat), (stepA A).2.2)) := by show _ = _; rw [HPUT0.out, if_neg he]
        have he' : ((stepA A).2.2 == 0) = false := by simpa using he
        generalize stepA A = st at *
        obtain ⟨A3, k3, e3⟩ := st
        simp only at he he' HPUT HF3 HSAME HHOW
        obtain ⟨kk, hkk⟩ : ∃ kk : Nat, partOf k3 p.length rm = (kk : Int) := ⟨(partOf k3 p.length rm).toNat, by have : 0 ≤ partOf k3 p.length rm := by unfold partOf; omega
                                                                                                                omega⟩
        have hkl : kk ≤ p.length := by
          have : partOf k3 p.length rm ≤ p.length := by unfold partOf; omega
          omega
        have HPART := Lib.hid fun W => part_any k3 p.length rm HHOW.out.1 HHOW.out.2 W
        rw [hkk] at HPART HPUT
        have hf3 : A3.file b = some f := by rw [HSAME.out.2.2.2.1]; exact HFB.out
        rcases HP3.out with ⟨hvn, hpn⟩ | ⟨wa, hvn, hpn⟩ | ⟨pb, po, cap, hvs, hcap, _, _⟩
        · subst hpn
          obtain ⟨rfl, rfl⟩ : va = none ∧ vc = 0 := by cases hvn; exact ⟨rfl, rfl⟩
          obtain rfl : kk = 0 := by simpa using hkl
          have HADD := Lib.hid (add_any g S A3 b f (.slice none 0 0) [] w3 HF3.out hf3 (.inl ⟨rfl, rfl⟩) (by simp; omega))
          clear hkk hkl hvn he hf3
          go_wp2_with fail
          refine (HPART.out _).mono ?_; rintro e w4 ⟨rfl, rfl⟩
          go_wp2_with fail
          refine HADD.out.mono ?_; rintro e w4 ⟨rfl, hF4, hK4⟩
          have HF4 := Lib.hid hF4
          have HK4 := Lib.hid hK4
          clear hF4 hK4
          go_wp2_with fail
          go_ret
          exact ⟨ret_int (by rw [HR.out, HPUT.out]), by rw [HR.out, HPUT.out]; exact grow_two HF4.out HK3.out.size, HK3.out.trans' HK4.out⟩
        · subst hpn
          obtain ⟨rfl, rfl⟩ : va = some wa ∧ vc = 0 := by cases hvn; exact ⟨rfl, rfl⟩
          obtain rfl : kk = 0 := by simpa using hkl
          have HADD := Lib.hid (add_any g S A3 b f (.slice (some wa) 0 0) [] w3 HF3.out hf3 (.inr (.inl ⟨_, rfl, rfl⟩)) (by simp; omega))
          clear hkk hkl hvn he hf3
          go_wp2_with fail
          refine (HPART.out _).mono ?_; rintro e w4 ⟨rfl, rfl⟩
          go_wp2_with fail
          refine HADD.out.mono ?_; rintro e w4 ⟨rfl, hF4, hK4⟩
          have HF4 := Lib.hid hF4
          have HK4 := Lib.hid hK4
          clear hF4 hK4
          go_wp2_with fail
          go_ret
          exact ⟨ret_int (by rw [HR.out, HPUT.out]), by rw [HR.out, HPUT.out]; exact grow_two HF4.out HK3.out.size, HK3.out.trans' HK4.out⟩
        · obtain ⟨rfl, rfl⟩ : va = some ⟨pb, po, none⟩ ∧ vc = cap := by cases hvs; exact ⟨rfl, rfl⟩
          have htl : (p.take kk).length = kk := by simp; omega
          have HADD := Lib.hid (add_any g S A3 b f (.slice (some ⟨pb, po, none⟩) kk vc) (p.take kk) w3 HF3.out hf3 (HP3.out.take kk hkl) (by rw [htl]; omega))
          have hkc : kk ≤ vc := by omega
          clear hkk hvs he htl hf3
          go_wp2_with fail
          refine (HPART.out _).mono ?_; rintro e w4 ⟨rfl, rfl⟩
          go_wp2_with fail
          refine HADD.out.mono ?_; rintro e w4 ⟨rfl, hF4, hK4⟩
          have HF4 := Lib.hid hF4
          have HK4 := Lib.hid hK4
          clear hF4 hK4
          go_wp2_with fail
          go_ret
          exact ⟨ret_int (by rw [HR.out, HPUT.out]), by rw [HR.out, HPUT.out]; exact grow_two HF4.out HK3.out.size, HK3.out.trans' HK4.out⟩
  · have HR : Hid (appendA A s p = (A, (findA A s).2)) := by
      show _ = _
      unfold appendA
      generalize findA A s = fa at *
      obtain ⟨fx, fc⟩ := fa
      simp only at hc
      split
      · rename_i heq; cases heq; exact absurd rfl hc
      · rename_i heq; cases heq; rfl
    have hc' : ((findA A s).2 == 0) = false := by simpa using hc
    generalize findA A s = fa at *
    obtain ⟨fx, fc⟩ := fa
    simp only at hc hc' HFI HR
    clear hc
    go_wp2_with fail
    refine HFI.out.mono ?_; rintro e w1 ⟨rfl, hb1⟩
    have HF1 := Lib.hid (HF.out.below hb1)
    have HB1 := Lib.hid hb1
    clear hb1
    go_wp2_with fail
    go_ret
    exact ⟨ret_int (by rw [HR.out]), by rw [HR.out]; exact HF1.out.to grow_left fun _ _ _ => rfl, Keep.of_below HB1.out⟩
end Go.Proofs.YtkdjkmnalkalpaaGreatDoor
