/- Package simfs: 'add', 'Used', 'Append'. -/
import Derived.Test.YtpfbiijcmmkjlaaFsJ
import Derived.Laws.AppendOwnNone
namespace Go.Proofs.Ytpfbiijcmmkjlaa
open Go.RowKit Go.Maps Go.WideMaps

/-- Its own block, where it has room for a cell at least. -/
def Live (v : Value) (k : Nat) : Prop := v.ownBlock = some k ∧ ∀ a, v ≠ .slice a 0 0
/-- The value v is a slice of these bytes. -/
def Bytes (w : World) (v : Value) (p : List Int) : Prop :=
  (v = .slice none 0 0 ∧ p = []) ∨ (∃ a, v = .slice (some a) 0 0 ∧ p = []) ∨ ∃ pb po cap, v = .slice (some ⟨pb, po, none⟩) p.length cap ∧ p.length ≤ cap ∧ pb < w.heap.size ∧ w.rangeAt pb po (p.map (Value.int .u8))
theorem Bytes.same {w w' : World} {v : Value} {p : List Int} (h : Bytes w v p) (hs : ∀ k, k < w.heap.size → Live v k → w'.heap[k]? = w.heap[k]?) (hz : w.heap.size ≤ w'.heap.size) : Bytes w' v p := by
  rcases h with h | h | ⟨pb, po, cap, rfl, h2, h3, h4⟩
  · exact Or.inl h
  · exact Or.inr (Or.inl h)
  · by_cases hc : cap = 0
    · subst hc
      obtain rfl : p = [] := List.length_eq_zero_iff.1 (by omega)
      exact Or.inr (Or.inl ⟨_, rfl, rfl⟩)
    · exact Or.inr (Or.inr ⟨pb, po, cap, rfl, h2, Nat.lt_of_lt_of_le h3 hz, fun j u hu => by rw [World.cell?_of_block (w := w) (hs pb h3 ⟨rfl, fun a e => by injection e with _ _ e; exact hc e⟩)]; exact h4 j u hu⟩)
theorem Bytes.below {w w' : World} {v : Value} {p : List Int} (h : Bytes w v p) (hb : Below w.heap.size w w') : Bytes w' v p := h.same (fun k hk _ => hb.block k hk) hb.size
theorem Bytes.slice {w : World} {v : Value} {p : List Int} (h : Bytes w v p) : ∃ a c, v = .slice a p.length c := by
  rcases h with ⟨rfl, rfl⟩ | ⟨a, rfl, rfl⟩ | ⟨pb, po, cap, rfl, _⟩
  · exact ⟨_, _, rfl⟩
  · exact ⟨_, _, rfl⟩
  · exact ⟨_, _, rfl⟩
theorem OwnD.bytes {w : World} {base : Nat} {v : Value} {p : List Int} (h : w.ownsRow base 5 1 v p.length (p.map (Value.int .u8))) : Bytes w v p := by
  rcases h.2 with ⟨h0, h1⟩ | ⟨g, cap, cur, hv, _, hh, hn, _, hcs, hxs⟩
  · exact Or.inl ⟨h0, List.length_eq_zero_iff.1 h1⟩
  · refine Or.inr (Or.inr ⟨g, 0, cap, hv, hn, heap_lt hh, fun j u hu => ?_⟩)
    rw [cell_of_row w g (0 + j) cur 5 (0, 0) hh, ← Array.getElem?_toList]
    rw [← hxs] at hu
    rw [List.getElem?_take] at hu
    split at hu
    · rw [Nat.zero_add]; exact hu
    · cases hu
theorem byteInfo : (Try.prog.info? 5).map (fun i => (i.zero, i.size, i.bytes)) = some (some (.int .u8 0), 1, 1) := by kernel_rfl
/-- An append of bytes to bytes that a file has. -/
theorem wpList_append_D {w : World} {ops : Array Oper} {rest : List Oper} {o : Oper} {a : Act} {Q : Exit → Act → World → Prop} (hgd : o.guard = none) (s x : Operand)
    (ho : o.op = .call { callee := .builtin .append, args := #[s, x], argTypes := #[37, 37] })
    (v u : Value) (ys p : List Int) (hs : a.eval s = v) (hown : OwnD w v ys) (hx : a.eval x = u) (hp : Bytes w u p) (hle : ys.length + p.length ≤ 1000000)
    (h : ∀ v' w', OwnD w' v' (ys ++ p) → w.grownBy w' v.ownBlock → (v'.ownBlock = v.ownBlock ∨ v'.ownBlock = some w.heap.size) → wpList Try.prog ops Q rest (a.put o.dst v') w') : wpList Try.prog ops Q (o :: rest) a w := by
  obtain ⟨i0, hi, hz0, hz1, hz2⟩ := info_parts byteInfo
  rcases hp with ⟨rfl, rfl⟩ | ⟨wa, rfl, rfl⟩ | ⟨pb, po, cap, rfl, h2, h3, h4⟩
  · refine wpList_append_own_none hgd s x 37 ho 0 5 i0 1 Try.underlying37 hi v ys.length (ys.map (Value.int .u8)) hs hown hx ?_
    exact h v w (by rw [List.append_nil]; exact hown) ⟨rfl, rfl, rfl, Nat.le_refl _, fun _ _ _ => rfl⟩ (.inl rfl)
  · refine wpList_append_own_at w hgd s x 37 ho 0 5 i0 (.int .u8 0) 1 1 Try.underlying37 hi hz0 hz1 hz2 rfl (by decide) v ys.length (ys.map (Value.int .u8)) hs hown wa 0 0 ([].map (Value.int .u8)) hx
      (by simp) (fun j u hu => by cases hu) (fun u hu => by cases hu) (by unfold maxLen; omega) (by omega) (Nat.zero_le _) ?_
    intro v' w' h1 h2 _ h3
    refine h v' w' ?_ h2 h3
    unfold OwnD
    rw [List.length_append, List.map_append]; exact h1
  · refine wpList_append_own_at w hgd s x 37 ho 0 5 i0 (.int .u8 0) 1 1 Try.underlying37 hi hz0 hz1 hz2 rfl (by decide) v ys.length (ys.map (Value.int .u8)) hs hown ⟨pb, po, none⟩ p.length cap (p.map (Value.int .u8)) hx
      (by simp) (fun j u hu => by rw [Addr.add_mid]; exact h4 j u hu) (ones_int _ _) (by unfold maxLen; omega) (by omega) (Nat.zero_le _) ?_
    intro v' w' h1 h2 _ h3
    refine h v' w' ?_ h2 h3
    unfold OwnD
    rw [List.length_append, List.map_append]; exact h1
/-- One file's bytes and what is sure. -/
def setF (A : FsA) (b : Nat) (f : Fil) : FsA := { A with file := fun k => if k = b then some f else A.file k }

set_option maxRecDepth 100000 in
set_option maxHeartbeats 2000000 in
theorem add_any (g : Nat) (S : Nat → Prop) (A : FsA) (b : Nat) (f : Fil) (v : Value) (p : List Int) (w : World) (h : Fs w g S A) (hf : A.file b = some f) (hp : Bytes w v p) (hl : f.data.length + p.length ≤ 1000000) :
    Calls Try.prog 45 #[.pointer (some ⟨b, 0, none⟩), v] w fun e w' => e = .returned (.tuple #[]) ∧ Fs w' g (grow S w w') (setF A b { f with data := f.data ++ p }) ∧ Keep S w w' := by
  obtain ⟨pv, bn, bs, sv, vs, dv, hM⟩ := h
  obtain ⟨hfa, hfS, hfd⟩ := hM.file b f hf
  obtain ⟨da, dc, hde⟩ := own_slice hfa.2
  obtain ⟨va, vc, rfl⟩ := hp.slice
  have c1 := hfa.1.cell (i := 1) rfl
  have HFA := Lib.hid hfa
  have HOWN := Lib.hid hfa.2
  rw [hde] at c1 HOWN
  have HM := Lib.hid hM
  have HP := Lib.hid hp
  have HF := Lib.hid hf
  have HL := Lib.hid hl
  have HDE := Lib.hid hde
  have HFD := Lib.hid hfd
  have HFS := Lib.hid hfS
  clear hM hfa hfS hfd hp hf hl hde
  go_enter Try.func45, Try.ntmps45
  go_wp2_with (with_reducible refine wpList_append_D rfl (.tmp 8) (.tmp 9) rfl (.slice da f.data.length dc) (.slice va p.length vc) f.data p rfl HOWN.out rfl HP.out HL.out ?_)
  intro v' w1 ho1 hg1 hloc
  obtain ⟨na, nc, rfl⟩ := own_slice ho1
  rw [List.length_append] at ho1 hloc ⊢
  have hbne : ∀ x, (Value.slice da f.data.length dc).ownBlock = some x → b ≠ x := fun x hx => by obtain ⟨cur, hcur⟩ := OwnD.blk HOWN.out x hx; exact kind_ne HFA.out.1 hcur (fun e => by injection e with _ e2 _; exact absurd e2 (by decide))
  have hsame : ∀ k, k < w.heap.size → (∀ x, (Value.slice da f.data.length dc).ownBlock = some x → k ≠ x) → w1.heap[k]? = w.heap[k]? := fun k hk hne => hg1.block k hk (fun e => hne k e.symm rfl)
  have hb1 : Blk w1 b 84 [.int .i64 f.num, dv b, .int .i64 f.sure] := Blk.of (hsame b HFA.out.1.lt hbne) HFA.out.1
  have f1 := hb1.frozen 1
  have c1' := hb1.cell (i := 1) rfl
  have hset := hb1.set 1 (.slice na (f.data.length + p.length) nc)
  have hso : ∀ k, k ≠ b → (w1.setCell ⟨b, 1, none⟩ (.slice na (f.data.length + p.length) nc)).heap[k]? = w1.heap[k]? := fun k hk => heap_setCell_other w1 ⟨b, 1, none⟩ k _ hk
  have hszf : (w1.setCell ⟨b, 1, none⟩ (.slice na (f.data.length + p.length) nc)).heap.size = w1.heap.size := by simp [World.setCell]
  have hown' : OwnD (w1.setCell ⟨b, 1, none⟩ (.slice na (f.data.length + p.length) nc)) (.slice na (f.data.length + p.length) nc) (f.data ++ p) :=
    ownsRow_to ho1 fun k cur e _ => hso k (kind_ne e hb1 (fun e => by injection e with _ e2 _; exact absurd e2 (by decide)))
  have hnew : ∀ k, (Value.slice na (f.data.length + p.length) nc).ownBlock = some k → grow S w (w1.setCell ⟨b, 1, none⟩ (.slice na (f.data.length + p.length) nc)) k := by
    intro k hk
    rcases hloc with h | h
    · exact .inl (HFD.out k (by rw [HDE.out, ← h]; exact hk))
    · have h1 := Option.some.inj (hk.symm.trans h)
      obtain ⟨cur, hcur⟩ := OwnD.blk ho1 k hk
      exact .inr ⟨by omega, by rw [hszf]; exact heap_lt hcur⟩
  have HFIN := Lib.hid (HM.out.setFile HF.out (f' := { f with data := f.data ++ p }) (d' := .slice na (f.data.length + p.length) nc) (T := grow S w (w1.setCell ⟨b, 1, none⟩ (.slice na (f.data.length + p.length) nc))) grow_left
    (fun k hk hkb hne => (hso k hkb).trans (hsame k hk (by rw [← HDE.out]; exact hne))) ⟨hset, hown'⟩ hnew (by
      rcases hloc with h | h
      · exact .inl (by rw [HDE.out]; exact h)
      · exact .inr fun k hk => by rw [h] at hk; cases hk; exact Nat.le_refl _))
  have HKF : Hid (Keep S w (w1.setCell ⟨b, 1, none⟩ (.slice na (f.data.length + p.length) nc))) :=
    (Keep.of_grown hg1 (fun x hx => HFD.out x (by rw [HDE.out]; exact hx)) : Keep S w w1).trans' ⟨rfl, rfl, rfl, by rw [hszf]; exact Nat.le_refl _, fun k _ hk => hso k (fun e => hk (by rw [e]; exact HFS.out))⟩
  clear hbne hsame hb1 hset hso hszf hown' hnew ho1 hg1 hloc
  go_wp2_with fail
  go_end0
  exact ⟨rfl, ⟨_, _, _, _, _, _, HFIN.out⟩, HKF.out⟩

/-- A directory each of whose entries is a name of a file. -/
def OkD (fl : Nat → Option Fil) (D : DataW Unit) : Prop := ∃ es, D = .map es ∧ ∀ p ∈ es, ∃ (s : ByteArray) (b : Nat) (f : Fil), p.1 = keyL s ∧ s.size ≤ 20 ∧ p.2 = .lit (.int .i64 (b : Nat)) ∧ fl b = some f
theorem OkD.named {A : FsA} (h : OkD A.file A.now) : Named A := by
  intro s b hd
  obtain ⟨es, he, hp⟩ := h
  unfold dget at hd
  rw [he] at hd
  unfold DataW.atKey at hd
  cases hf : es.find? (fun p => p.1.sameKey (keyL s)) with
  | none => simp [hf] at hd
  | some p =>
    simp only [hf] at hd
    obtain ⟨s', b', f, _, _, h2, h3⟩ := hp p (List.mem_of_find?_eq_some hf)
    simp only [h2] at hd
    have : b' = b := by simpa using hd
    exact ⟨f, by rw [← this]; exact h3⟩
def usedA (A : FsA) : Nat := usedD A.file A.now
set_option maxRecDepth 100000 in
set_option maxHeartbeats 1000000 in
theorem used_any (g : Nat) (S : Nat → Prop) (A : FsA) (w : World) (h : Fs w g S A) (hok : OkD A.file A.now) (hsh : Short A) (hn : Maps.size A.now < 1000) :
    Calls Try.prog 12 #[.pointer (some ⟨g, 0, none⟩)] w fun e w' => e = .returned (.int .i64 (usedA A : Nat)) ∧ Below w.heap.size w w' := by
  obtain ⟨pv, bn, bs, sv, vs, dv, hM⟩ := h
  have c6 := hM.row.cell (i := 6) rfl
  obtain ⟨es, he, hp⟩ := hok
  have hnow := hM.now
  rw [he] at hnow hn
  have HSZ := Lib.hid (size_any bn es A.file dv w hnow (fun p hpm => by
    obtain ⟨_, b, f, _, _, h2, h3⟩ := hp p hpm
    exact ⟨b, f, h2, h3, (hM.file b f h3).1.1, (hM.file b f h3).1.2, (hsh b f h3).1⟩) hn fun b f hf => (hsh b f hf).1)
  have HU : Hid (usedA A = tot A.file es (fun _ => true)) := by show _ = _; unfold usedA; rw [he]; rfl
  rw [HU.out]
  clear hM hnow hp he hn hsh
  go_enter Try.func12, Try.ntmps12
  go_wp2_with fail
  refine HSZ.out.mono ?_; rintro e w1 ⟨rfl, hb1⟩
  go_wp2_with fail
  go_ret
  exact ⟨rfl, hb1⟩
end Go.Proofs.Ytpfbiijcmmkjlaa
