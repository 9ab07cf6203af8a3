/- Package simfs: 'Create', 'Remove', 'Rename'. -/
import Derived.Test.YtpfbiijcmmkjlaaFsF
namespace Go.Proofs.Ytpfbiijcmmkjlaa
open Go.RowKit Go.Maps Go.WideMaps

section
variable {w w' w'' : World} {g : Nat} {S T : Nat → Prop} {A : FsA} {pv : Value} {bn bs : Nat} {sv : Value} {vs : List Value} {dv : Nat → Value}
/-- A file more. -/
theorem FsM.addFile (h : FsM w g S A pv bn bs sv vs dv) {b : Nat} {num : Int} (hb : Blk w b 84 [.int .i64 num, .slice none 0 0, .int .i64 0]) (hS : S b) :
    FsM w g S { A with file := fun k => if k = b then some ⟨num, [], 0⟩ else A.file k } pv bn bs sv vs (fun k => if k = b then .slice none 0 0 else dv k) := by
  refine { row := h.row, gS := h.gS, plan := h.plan, planS := h.planS, now := h.now, nS := h.nS, sure := h.sure, sS := h.sS, ne := h.ne, since := h.since, sinceS := h.sinceS, cloL := h.cloL, clo := h.clo, file := ?_, apart := ?_ }
  · intro k f hf
    simp only at hf ⊢
    by_cases hk : k = b
    · subst hk
      rw [if_pos rfl] at hf ⊢
      cases hf
      exact ⟨⟨hb, World.ownsRow_nil _ _ _ _⟩, hS, fun _ h => by cases h⟩
    · rw [if_neg hk] at hf ⊢
      exact h.file k f hf
  · intro k k' hne h1 h2 x hx
    simp only at h1 h2 hx ⊢
    by_cases hk : k = b
    · rw [if_pos hk] at hx; cases hx
    · rw [if_neg hk] at hx h1
      by_cases hk' : k' = b
      · rw [if_pos hk']; simp [Value.ownBlock]
      · rw [if_neg hk'] at h2 ⊢
        exact h.apart k k' hne h1 h2 x hx
theorem FsM.mono (h : FsM w g S A pv bn bs sv vs dv) (hT : ∀ k, S k → T k) : FsM w g T A pv bn bs sv vs dv := h.to hT fun _ _ _ => rfl
theorem Keep.grow (h : Keep S w w') (k : Keep (grow S w w') w' w'') : Keep S w w'' := h.trans k
end

/-- How many names a directory has, under a name of its own. -/
theorem wpList_len_dir {w : World} {ops : Array Oper} {rest : List Oper} {o : Oper} {a : Act} {Q : Exit → Act → World → Prop} (hg : o.guard = none) (m : Operand) (hop : o.op = Op.call { callee := Callee.builtin Builtin.len, args := #[m], argTypes := #[54] })
    (b : Nat) (D : DataW Unit) (sz : Nat) (hm : a.eval m = .map (some b)) (hd : Hid (Dir w b D ∧ Maps.size D = sz)) (hK : wpList Try.prog ops Q rest (a.put o.dst (.int .i64 sz)) w) : wpList Try.prog ops Q (o :: rest) a w := by
  obtain ⟨hd, hs⟩ := hd.out
  exact wpList_len_own _ hg m 54 hop 9 77 Try.underlying54 _ b _ D hm hd (by rw [hs]; exact hK)
def createA (A : FsA) (s : ByteArray) (b : Nat) : FsA × Int :=
  if nameB s = true then
    if (dget A.now s).isSome = true then (A, 4) else
    if 64 ≤ Maps.size A.now then (A, 8) else
    if (stepA A).2.2 = 0 then
      ({ (stepA A).1 with file := fun k => if k = b then some ⟨(stepA A).1.created, [], 0⟩ else (stepA A).1.file k, now := (Chg.create s b).ap (stepA A).1.now, since := (stepA A).1.since ++ [.create s b], created := (stepA A).1.created + 1 }, 0)
    else ((stepA A).1, (stepA A).2.2)
  else (A, 7)
theorem stepA_same (A : FsA) : (stepA A).1.now = A.now ∧ (stepA A).1.sure = A.sure ∧ (stepA A).1.since = A.since ∧ (stepA A).1.file = A.file ∧ (stepA A).1.created = A.created ∧ (stepA A).1.room = A.room := by
  unfold stepA; split <;> exact ⟨rfl, rfl, rfl, rfl, rfl, rfl⟩
theorem Fs.ge {w : World} {g : Nat} {S : Nat → Prop} {A : FsA} {b : Nat} (h : Fs w g S A) (hb : w.heap.size ≤ b) : A.file b = none := by
  obtain ⟨pv, bn, bs, sv, vs, dv, h⟩ := h
  cases hf : A.file b with
  | none => rfl
  | some f => have := (h.file b f hf).1.1.lt; omega

/-- 'named' of one text, as callers ask it. -/
theorem named_one (s : ByteArray) (hs : s.size ≤ 9223372036854775807) (W : World) : Calls Try.prog 41 #[.slice (some ⟨W.heap.size, 0, none⟩) 1 1] (W.alloc (.cells #[.string s] 9)) fun e w' => e = .returned (.bool (nameB s)) ∧ Below W.heap.size W w' := by
  have := named_any W.heap.size [s] (W.alloc (.cells #[.string s] 9)) (Blk.new W 9 [.string s]) (by simp) (fun t ht => by obtain rfl := List.mem_singleton.1 ht; omega)
  refine (show Calls Try.prog 41 #[.slice (some ⟨W.heap.size, 0, none⟩) 1 1] (W.alloc (.cells #[.string s] 9)) fun e w' => e = .returned (.bool (nameB s)) ∧ Below (W.alloc (.cells #[.string s] 9)).heap.size (W.alloc (.cells #[.string s] 9)) w' from by simpa using this).mono ?_
  rintro e w' ⟨he, hb⟩
  exact ⟨he, ((Below.refl _ W).alloc (Nat.le_refl _) _).trans (hb.mono (by simp))⟩

set_option maxRecDepth 100000 in
set_option maxHeartbeats 4000000 in
theorem create_any (g : Nat) (S : Nat → Prop) (A : FsA) (s : ByteArray) (w : World) (h : Fs w g S A) (hn : Num A) (hs : s.size ≤ 9223372036854775807) (hcr : 0 ≤ A.created ∧ A.created < 4611686018427387904) (hsz : Maps.size A.now < 1000) (hl : A.since.length < 1000) :
    Calls Try.prog 15 #[.pointer (some ⟨g, 0, none⟩), .string s] w fun e w' => ∃ b, w.heap.size ≤ b ∧ e = .returned (.int .i64 (createA A s b).2) ∧ Fs w' g (grow S w w') (createA A s b).1 ∧ Keep S w w' := by
  have HF := Lib.hid h
  have HN := Lib.hid (named_one s hs)
  have HNUM := Lib.hid hn
  have HCR := Lib.hid hcr
  have HSZ := Lib.hid hsz
  have HSL := Lib.hid hl
  clear h hn hcr hsz hl
  cases hnb : nameB s
  · have HR : Hid (∀ b, createA A s b = (A, 7)) := fun b => by unfold createA; rw [hnb]; rfl
    rw [hnb] at HN
    clear hnb
    go_enter Try.func15, Try.ntmps15
    go_wp2_with fail
    refine (HN.out _).mono ?_; rintro e w1 ⟨rfl, hb⟩
    go_wp2_with fail
    go_ret
    exact ⟨w.heap.size, Nat.le_refl _, ret_int (by rw [HR.out]), by rw [HR.out]; exact (HF.out.below hb).to grow_left fun _ _ _ => rfl, Keep.of_below hb⟩
  · rw [hnb] at HN
    have hH := nameB_size hnb
    have HNB := Lib.hid hnb
    clear hnb
    go_enter Try.func15, Try.ntmps15
    go_wp2_with fail
    refine (HN.out _).mono ?_; rintro e w1 ⟨rfl, hb1⟩
    have HB1 := Lib.hid hb1
    have hF1 := HF.out.below hb1
    have HF1 := Lib.hid hF1
    obtain ⟨pv, bn, bs, sv, vs, dv, hM1⟩ := hF1
    have c6 := hM1.row.cell (i := 6) rfl
    have hl := (hM1.now.look (s := s) (by unfold maxLen; omega)).1
    have HD1 := Lib.hid hM1.now
    clear hb1 hM1
    cases hx : dget A.now s with
    | some b0 =>
      have HR : Hid (∀ b, createA A s b = (A, 4)) := fun b => by unfold createA; rw [if_pos HNB.out, hx]; rfl
      have hl' : (Instr.lookup 54 (.map (some bn)) (.string s) false).run Try.prog w1 = .ok (.pointer (some ⟨b0, 0, none⟩)) w1 := by rw [hx] at hl; exact hl
      clear hl hx
      go_wp2_with fail
      go_ret
      exact ⟨w.heap.size, Nat.le_refl _, ret_int (by rw [HR.out]), by rw [HR.out]; exact HF1.out.to grow_left fun _ _ _ => rfl, Keep.of_below HB1.out⟩
    | none =>
      have HXN := Lib.hid hx
      have hl' : (Instr.lookup 54 (.map (some bn)) (.string s) false).run Try.prog w1 = .ok (.pointer none) w1 := by rw [hx] at hl; exact hl
      clear hl hx
      obtain ⟨sz, hsz⟩ : ∃ sz, Maps.size A.now = sz := ⟨_, rfl⟩
      have HLEN : Hid (Dir w1 bn A.now ∧ Maps.size A.now = sz) := ⟨HD1.out, hsz⟩
      have HSE := Lib.hid hsz
      clear hsz
      by_cases h64 : 64 ≤ sz
      · have HR : Hid (∀ b, createA A s b = (A, 8)) := fun b => by
          unfold createA
          rw [if_pos HNB.out, if_neg (by rw [HXN.out]; simp), if_pos (by rw [HSE.out]; exact h64)]
        have h64b : decide ((64 : Int) ≤ (sz : Int)) = true := decide_eq_true (by omega)
        clear h64
        go_wp2_with (first
          | (at_len; refine wpList_len_dir rfl _ rfl bn A.now sz rfl HLEN ?_))
        go_ret
        exact ⟨w.heap.size, Nat.le_refl _, ret_int (by rw [HR.out]), by rw [HR.out]; exact HF1.out.to grow_left fun _ _ _ => rfl, Keep.of_below HB1.out⟩
      · have h64' : (sz : Int) < 64 := by omega
        go_wp2_with (first
          | (at_len; refine wpList_len_dir rfl _ rfl bn A.now sz rfl HLEN ?_))
        refine (step_any g S A w1 HF1.out HNUM.out).mono ?_; rintro e w2 ⟨rfl, hF2, hb2⟩
        have hgS : S g := by obtain ⟨_, _, _, _, _, _, hM⟩ := HF.out; exact hM.gS
        have HK2 := Lib.hid ((Keep.of_below HB1.out : Keep S w w1).trans' (Keep.of_but hb2 hgS))
        have HF2 := Lib.hid hF2
        have HSAME := Lib.hid (stepA_same A)
        have HGS := Lib.hid hgS
        clear hF2 hb2 hl' c6 hgS
        by_cases he : (stepA A).2.2 = 0
        · have HR : Hid (∀ b, createA A s b = ({ (stepA A).1 with file := fun k => if k = b then some ⟨(stepA A).1.created, [], 0⟩ else (stepA A).1.file k, now := (Chg.create s b).ap (stepA A).1.now, since := (stepA A).1.since ++ [.create s b], created := (stepA A).1.created + 1 }, 0)) := fun b => by
            unfold createA
            rw [if_pos HNB.out, if_neg (by rw [HXN.out]; simp), if_neg (by rw [HSE.out]; exact h64), if_pos he]
          generalize (stepA A) = st at *
          obtain ⟨A2, k2, e2⟩ := st
          simp only at he HR HF2 HSAME
          subst he
          have hF2 := HF2.out
          obtain ⟨pv2, bn2, bs2, sv2, vs2, dv2, hM2⟩ := hF2
          have c5 := hM2.row.cell (i := 5) rfl
          have HM2 := Lib.hid hM2
          clear hM2
          have hcr2 : 0 ≤ A2.created ∧ A2.created < 4611686018427387904 := by rw [HSAME.out.2.2.2.2.1]; exact HCR.out
          have hcrw : IntKind.i64.wrap (A2.created + 1) = A2.created + 1 := IntWalk.i64_in _ (by omega)
          have HCRW := Lib.hid hcrw
          have HCR2 := Lib.hid hcr2
          clear hcrw hcr2
          go_wp2_with fail
          have hlt2 : w.heap.size ≤ w2.heap.size := HK2.out.size
          refine calls_world fun w3 hw3 => ?_
          have hB3 : Below w2.heap.size w2 w3 := by rw [hw3]; exact (Below.refl _ _).alloc (Nat.le_refl _) _
          have hb3 : Blk w3 w2.heap.size 84 [.int .i64 A2.created, .slice none 0 0, .int .i64 0] := by rw [hw3]; exact Blk.new w2 _ _
          clear hw3
          have HF3 := Lib.hid (((HM2.out.below hB3).mono (T := grow S w2 w3) grow_left).addFile hb3 (.inr ⟨Nat.le_refl _, hb3.lt⟩))
          have HB3 := Lib.hid hB3
          clear hb3 hB3
          refine (creation_any s w2.heap.size w3 hH.2).mono ?_; rintro e w4 ⟨v, rfl, hclo, hB4⟩
          have hS34 : ∀ k, grow S w2 w3 k → grow S w2 w4 k := fun k hk => hk.elim .inl fun h => .inr ⟨h.1, Nat.lt_of_lt_of_le h.2 hB4.size⟩
          have hF4 : Fs w4 g (grow S w2 w4) { A2 with file := fun k => if k = w2.heap.size then some ⟨A2.created, [], 0⟩ else A2.file k } := ⟨_, _, _, _, _, _, (HF3.out.below hB4).mono hS34⟩
          have hclo4 : Clo w4 (grow S w2 w4) v (.create s w2.heap.size) := hclo.to (fun k hk => .inr ⟨Nat.le_trans HB3.out.size hk.1, hk.2⟩) fun _ _ _ _ => rfl
          have hB24 := HB3.out.trans (hB4.mono HB3.out.size)
          have hch := change_any g (grow S w2 w4) _ v (.create s w2.heap.size) w4 hF4 hclo4 (by show Maps.size A2.now < _; rw [HSAME.out.1]; have := HSZ.out; omega) (by show A2.since.length < _; rw [HSAME.out.2.2.1]; have := HSL.out; omega)
          have HCH := Lib.hid hch
          have HB24 := Lib.hid hB24
          clear hch hB24 hclo4 hF4 hS34 hB4 hclo
          go_wp2_with fail
          refine HCH.out.mono ?_; rintro e w5 ⟨rfl, hF5, hK5⟩
          have hg5 : grow (grow S w2 w4) w4 w5 = grow S w2 w5 := grow_trans S HB24.out.size hK5.size
          rw [hg5] at hF5
          obtain ⟨pv5, bn5, bs5, sv5, vs5, dv5, hM5⟩ := hF5
          have c5' := hM5.row.cell (i := 5) rfl
          have f5' := hM5.row.frozen 5
          have HM5 := Lib.hid hM5
          have hK : Keep S w w5 := HK2.out.trans' (((Keep.of_below HB24.out : Keep S w2 w4)).trans hK5)
          have HKK := Lib.hid (hK.trans' (w'' := w5.setCell ⟨g, 5, none⟩ (.int .i64 (A2.created + 1))) ⟨rfl, rfl, rfl, by simp [World.setCell], fun k hk hS => heap_setCell_other w5 ⟨g, 5, none⟩ k _ (fun e => hS (by rw [e]; exact HGS.out))⟩)
          have hbut : But w5.heap.size g w5 (w5.setCell ⟨g, 5, none⟩ (.int .i64 (A2.created + 1))) := (But.refl _ g _).setCell (p := ⟨g, 5, none⟩) (.inr rfl) _
          have HFIN := Lib.hid (hM5.head hbut A2.count A2.armed A2.left (A2.created + 1) A2.plan pv5 (hM5.row.set 5 _) (hM5.plan.to fun k cur e _ => hbut.block k (heap_lt e) (kind_ne e hM5.row (fun e => by injection e with _ e2 _; exact absurd e2 (by decide)))) hM5.planS)
          have hcrw := HCRW.out
          have HZ5 : Hid (w.heap.size ≤ w2.heap.size ∧ (w5.setCell ⟨g, 5, none⟩ (.int .i64 (A2.created + 1))).heap.size = w5.heap.size) := ⟨hlt2, by simp [World.setCell]⟩
          clear hM5 hK hbut hK5 hg5 c5 hlt2
          go_wp2_with fail
          go_ret
          refine ⟨w2.heap.size, HZ5.out.1, ret_int (by rw [HR.out]), ?_, HKK.out⟩
          rw [HR.out]
          refine Fs.to (S := grow S w2 w5) ⟨_, _, _, _, _, _, HFIN.out⟩ (fun k hk => hk.elim .inl fun h => .inr ⟨Nat.le_trans HZ5.out.1 h.1, by rw [HZ5.out.2]; exact h.2⟩) fun _ _ _ => rfl
        · have HR : Hid (∀ b, createA A s b = ((stepA A).1, (stepA A).2.2)) := fun b => by
            unfold createA
            rw [if_pos HNB.out, if_neg (by rw [HXN.out]; simp), if_neg (by rw [HSE.out]; exact h64), if_neg he]
          have he' : ((stepA A).2.2 == 0) = false := by simpa using he
          generalize (stepA A) = st at *
          obtain ⟨A2, k2, e2⟩ := st
          simp only at he he'
          clear he
          go_wp2_with fail
          go_ret
          exact ⟨w.heap.size, Nat.le_refl _, ret_int (by rw [HR.out]), by rw [HR.out]; exact HF2.out.to grow_left fun _ _ _ => rfl, HK2.out⟩
end Go.Proofs.Ytpfbiijcmmkjlaa
