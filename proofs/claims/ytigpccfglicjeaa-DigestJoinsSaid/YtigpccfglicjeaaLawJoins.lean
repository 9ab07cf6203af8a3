/- DigestJoins: bytes in any parts have the digest of all of them. For every list of parts; no condition. -/
import Derived.Test.YtigpccfglicjeaaLawSums
namespace Go.Proofs.Ytigpccfglicjeaa
open Go.RowKit Go.WideShapes Go.ChangeShapes Go.ChangeAt

section
variable {H : Type} {enc : TypeId × Value → H} {P : Program}
theorem cells_one {w : World} {base : Nat} {a : Addr} {cs : List Value} (h : w.cells? base a 1 = some cs) : ∃ u, cs = [u] ∧ w.cell? a = some u := by
  unfold World.cells? at h
  split at h
  · cases hc : w.cell? a with
    | none => simp [Addr.add, hc] at h
    | some u => simp [Addr.add, hc] at h; exact ⟨u, h.symm, rfl⟩
  · cases h
theorem cell_plain {w : World} {a : Addr} {u : Value} (h : w.cell? a = some u) : a.spot = none ∧ a.block < w.heap.size := by
  unfold World.cell? at h
  split at h
  · rename_i c t f hh
    refine ⟨?_, ?_⟩
    · cases hs : a.spot with
      | none => rfl
      | some x => simp [hs] at h
    · by_cases k : a.block < w.heap.size
      · exact k
      · rw [Array.getElem?_eq_none (by omega)] at hh; cases hh
  · cases h
/-- What a cell of a list of lists of bytes reads as. -/
theorem bytes_of_trod {t e fuel : Nat} {w : World} {base : Nat} {spare : Nat → Bool} {held : Bool} {u : Value} {x : DataW H × List MemPlace}
    (ht : P.underlying t = some (.slice e)) (he : P.underlying e = some (.int .u8)) (hcE : P.cellsOf e = 1)
    (hf : DataW.trod enc P w base spare held fuel t [u] = some x) : ∃ zs : List Int, BytesE w u zs ∧ zs.length < 9223372036854775808 := by
  rcases open_ints ht he hcE hf with ⟨hcs, _⟩ | ⟨a, len, cap, zs, hcs, _, hl, hm, hz, hx, hcell, hwz⟩
  · simp at hcs
    exact ⟨[], .inl (.inl ⟨hcs, rfl⟩), by simp⟩
  · simp at hcs
    subst hcs
    have hlz : len ≤ zs.length := by rw [hz]; split <;> omega
    have hlen : (zs.take len).length = len := by simp; omega
    by_cases h0 : len = 0
    · subst h0
      exact ⟨[], .inr ⟨a, cap, rfl, rfl⟩, by simp⟩
    · obtain ⟨hsp, hbl⟩ := cell_plain (hcell 0 (by omega))
      obtain ⟨ab, ao, asp⟩ := a
      simp only [Addr.add, if_true] at hsp hbl
      cases hsp
      refine ⟨zs.take len, .inl (.inr ⟨ab, ao, cap, by rw [hlen], by rw [hlen]; exact hl, hbl, fun j v hv => ?_⟩), by rw [hlen]; unfold maxLen at hm; omega⟩
      rw [List.getElem?_map] at hv
      cases hj : (zs.take len)[j]? with
      | none => rw [hj] at hv; cases hv
      | some y =>
        rw [hj] at hv
        cases hv
        have hjl : j < len := by have := (List.getElem?_eq_some_iff.1 hj).1; omega
        have hc := hcell j (by omega)
        rw [List.getElem?_take_of_lt hjl] at hj
        rw [List.getD_eq_getElem?_getD, hj] at hc
        have e : Addr.add ⟨ab, ao, none⟩ j = ⟨ab, ao + j, none⟩ := by unfold Addr.add; by_cases h : j = 0 <;> simp [h]
        rw [← e]; exact hc
theorem exists_list {α : Type} (d : α) {Q : Nat → α → Prop} : ∀ n : Nat, (∀ i, i < n → ∃ z, Q i z) → ∃ ps : List α, ps.length = n ∧ ∀ i, i < n → Q i (ps.getD i d)
  | 0, _ => ⟨[], rfl, fun i hi => by omega⟩
  | n + 1, h => by
    obtain ⟨ps, hl, hp⟩ := exists_list d n fun i hi => h i (by omega)
    obtain ⟨z, hz⟩ := h n (by omega)
    refine ⟨ps ++ [z], by simp [hl], fun i hi => ?_⟩
    rw [List.getD_eq_getElem?_getD]
    by_cases hin : i < n
    · rw [List.getElem?_append_left (by omega), ← List.getD_eq_getElem?_getD]; exact hp i hin
    · have : i = n := by omega
      subst this
      rw [List.getElem?_append_right (by omega), hl]; simpa using hz
/-- An argument that is a list of lists of bytes. -/
theorem open_parts {r : Reach} {b0 : Nat} {T t e : Nat} {w : World} {base : Nat} {spare : Nat → Bool} {held : Bool} {v : Value} {d : DataW H} {ps : List MemPlace}
    (hT : P.underlying T = some (.slice t)) (ht : P.underlying t = some (.slice e)) (he : P.underlying e = some (.int .u8)) (hcT : P.cellsOf t = 1) (hcE : P.cellsOf e = 1)
    (hval : Value.okWide P w r b0 T v) (hd : DataW.Trod enc P w base spare held T v d ps) :
    ∃ zs : List (List Int), Parts w v zs ∧ zs.length < 9223372036854775808 ∧ ∀ i, i < zs.length → (zs.getD i []).length < 9223372036854775808 := by
  obtain ⟨a0, len, cap, rfl⟩ := okWide_slice hT hval
  obtain ⟨fuel, hf⟩ := hd
  rcases DataW.trod_slice hT hf with ⟨hcs, _⟩ | ⟨a, len', cap', elems, rest, n, _, hcs, _, hb, hl, hm, hlen, hel, _, _⟩
  · simp [Value.cells] at hcs
    obtain ⟨rfl, rfl, rfl⟩ := hcs
    exact ⟨[], .inl ⟨rfl, rfl⟩, by simp, fun i hi => by simp at hi⟩
  · simp [Value.cells] at hcs
    obtain ⟨rfl, rfl, rfl⟩ := hcs
    have hok : w.has P r b0 a t cap := by
      unfold Value.okWide Cell.okWide Cell.ok at hval
      rw [hT] at hval
      exact hval.2.2
    obtain ⟨_, hsp, row, cells, hsh, _⟩ := hok
    obtain ⟨ab, ao, asp⟩ := a
    cases hsp
    have each : ∀ i, i < len → ∃ z : List Int, (∃ u, w.cell? ⟨ab, ao + i, none⟩ = some u ∧ BytesE w u z) ∧ z.length < 9223372036854775808 := by
      intro i hi
      have h1 := hel i hi
      rw [hcT, Nat.mul_one, List.getElem?_eq_getElem (by omega), Option.bind_eq_some_iff] at h1
      obtain ⟨cs', hcs, hy⟩ := h1
      obtain ⟨u, rfl, hu⟩ := cells_one hcs
      obtain ⟨z, hz, hzl⟩ := bytes_of_trod ht he hcE hy
      have e : Addr.add ⟨ab, ao, none⟩ i = ⟨ab, ao + i, none⟩ := by unfold Addr.add; by_cases h : i = 0 <;> simp [h]
      rw [e] at hu
      exact ⟨z, ⟨u, hu, hz⟩, hzl⟩
    obtain ⟨zs, hzl, hzs⟩ := exists_list [] len each
    exact ⟨zs, .inr ⟨ab, ao, cap, by rw [hzl], shape_lt hsh, fun i hi => (hzs i (by omega)).1⟩, by unfold maxLen at hm; omega, fun i hi => (hzs i (by omega)).2⟩
end
theorem BytesE.slice {w : World} {v : Value} {p : List Int} (h : BytesE w v p) : ∃ a c, v = .slice a p.length c := by
  rcases h with h | ⟨a, cap, rfl, rfl⟩
  · exact h.slice'
  · exact ⟨_, _, rfl⟩
/-- An append of bytes that came in, also of none from wherever. -/
theorem wpList_append_bytesE {ops : Array Oper} {rest : List Oper} {o : Oper} {a : Act} {w w0 : World} {Q : Exit → Act → World → Prop} (hgd : o.guard = none) (s x : Operand)
    (ho : o.op = .call { callee := .builtin .append, args := #[s, x], argTypes := #[22, 22] })
    (base : Nat) (v u : Value) (ys p : List Int) (hs : a.eval s = v) (hown : OwnB w base v ys) (hx : a.eval x = u) (hp : BytesE w0 u p) (hb : Below w0.heap.size w0 w) (hle : ys.length + p.length ≤ 140737488355328) (hbase : base ≤ w.heap.size)
    (h : ∀ v' w', OwnB w' base v' (ys ++ p) → w.grownBy w' v.ownBlock → wpList Try.prog ops Q rest (a.put o.dst v') w') : wpList Try.prog ops Q (o :: rest) a w := by
  rcases hp with hp | ⟨ad, cap, rfl, rfl⟩
  · exact wpList_append_bytesArg hgd s x ho base v u ys p hs hown hx hp hb hle hbase h
  · obtain ⟨i0, hi, hz0, hz1, hz2⟩ := info_parts byteInfo
    refine wpList_append_own w hgd s x 22 ho base 5 i0 (.int .u8 0) 1 1 Try.underlying22 hi hz0 hz1 hz2 rfl (by decide) v ys.length (ys.map (Value.int .u8)) hs hown ad 0 cap [] hx
      rfl (fun j u hu => by simp at hu) (by simp) (by unfold maxLen; simp at hle; omega) (by simp at hle; omega) hbase ?_
    intro v' w' h1 h2 _
    refine h v' w' ?_ h2
    unfold OwnB
    simpa using h1

set_option maxHeartbeats 4000000 in
theorem joins_any (v : Value) (ps : List (List Int)) (w : World) (hp : Parts w v ps) (hn : ps.length < 9223372036854775808) (hq : ∀ i, i < ps.length → (ps.getD i []).length < 9223372036854775808) :
    Calls Try.prog 4 #[v] w fun e w' => e = .returned (.bool true) ∧ Below w.heap.size w w' := by
  obtain ⟨qa, cap, rfl, hpe⟩ : ∃ qa cap, v = .slice qa ps.length cap ∧ (∀ i, i < ps.length → ∃ qb qo u, qa = some ⟨qb, qo, none⟩ ∧ qb < w.heap.size ∧ w.cell? ⟨qb, qo + i, none⟩ = some u ∧ BytesE w u (ps.getD i [])) := by
    rcases hp with ⟨rfl, rfl⟩ | ⟨qb, qo, cap, rfl, h1, h2⟩
    · exact ⟨none, 0, rfl, fun i hi => by simp at hi⟩
    · exact ⟨some ⟨qb, qo, none⟩, cap, rfl, fun i hi => by obtain ⟨u, h3, h4⟩ := h2 i hi; exact ⟨qb, qo, u, rfl, h1, h3, h4⟩⟩
  have HP := Lib.hid hp
  have HPE := Lib.hid hpe
  have HQ := Lib.hid hq
  clear hp hpe hq
  go_enter Try.func4, Try.ntmps4
  go_wp2_with fail
  refine (awake_any _).mono ?_; rintro e w1 ⟨rfl, hb1⟩
  by_cases hlong : 50 < ps.length
  · go_wp2_with fail
    refine (awake_any _).mono ?_; rintro e w2 ⟨rfl, hb2⟩
    go_wp2_with fail
    go_ret
    exact ⟨rfl, hb1.trans (hb2.mono hb1.size)⟩
  · have h50 : ps.length ≤ 50 := by omega
    have hz1 := hb1.size
    obtain ⟨N, hN⟩ : ∃ N, N = w1.heap.size := ⟨_, rfl⟩
    have hown0 : OwnB w1 N (.slice none 0 0) [] := World.ownsRow_nil _ _ _ _
    have HB1 := Lib.hid hb1
    have hN1 : w.heap.size ≤ N := by omega
    have hN2 : N ≤ w1.heap.size := by omega
    clear hb1 hN
    go_wp2_with fail
    go_loopw [3, 16] (fun s3 s16 wr => ∃ (i c : Nat) (g : Option Addr), i ≤ ps.length ∧ s16 = .int .i64 i ∧ s3 = .slice g ((ps.take i).flatten).length c ∧ ((ps.take i).flatten).length ≤ 1000 ∧ OwnB wr N s3 (ps.take i).flatten ∧ Below w.heap.size w wr ∧ N ≤ wr.heap.size)
      (fun _ s16 _ => ps.length - (intOf s16).toNat)
    case atStart => exact ⟨0, 0, none, by omega, rfl, by simp, by simp, by simpa using hown0, HB1.out, by omega⟩
    case round =>
      clear hown0
      obtain ⟨i, c, g, hi, rfl, rfl, hL, hO, hB, hNz⟩ := hrel
      by_cases hlt : i < ps.length
      · obtain ⟨qb, qo, u, rfl, hql, hcu, hbu⟩ := HPE.out i hlt
        have hcr : wr.cell? ⟨qb, qo + i, none⟩ = some u := by rw [World.cell?_of_block (w := w) (hB.block qb hql)]; exact hcu
        have hpl := HQ.out i hlt
        have HFT : Hid ((ps.take (i + 1)).flatten = (ps.take i).flatten ++ ps.getD i []) := flat_take_succ ps i hlt
        generalize (ps.take i).flatten = ys at *
        generalize ps.getD i [] = p at *
        obtain ⟨ua, uc, rfl⟩ := hbu.slice
        have HBU := Lib.hid hbu
        have HO := Lib.hid hO
        have HB := Lib.hid hB
        clear hbu hO hB hcu
        have hsub : IntKind.i64.wrap (1000 - (ys.length : Int)) = 1000 - ys.length := IntWalk.i64_in _ (by omega)
        by_cases hbig : 1000 - (ys.length : Int) < p.length
        · go_wp2_with fail
          go_ret
          exact ⟨rfl, HB.out⟩
        · go_wp2_with (with_reducible refine wpList_append_bytesE rfl (.tmp 26) (.tmp 27) rfl N _ _ ys p ?_ HO.out ?_ HBU.out HB.out ?_ ?_ ?_)
          case refine_3 => omega
          intro v1 w2 hown2 hg2
          have hB2 : Below w.heap.size w w2 := HB.out.trans ((HO.out.below hg2 hNz).mono hN1)
          have hz2 : N ≤ w2.heap.size := Nat.le_trans hNz (HO.out.below hg2 hNz).size
          obtain ⟨g2, c2, rfl⟩ := hown2.slice
          have HO2 := Lib.hid hown2
          clear hown2 hg2
          go_wp2_with fail
          go_roundw
          case rel => exact ⟨i + 1, c2, g2, by omega, by go_num, by rw [HFT.out], by rw [HFT.out, List.length_append]; omega, by rw [HFT.out]; exact HO2.out, hB2, hz2⟩
          case measure => simp [intOf]; omega
      · obtain rfl : i = ps.length := by omega
        rw [List.take_of_length_le (Nat.le_refl _)] at hL hO ⊢
        have hby := hO.bytes
        have hpp := HP.out.below hB
        have cJ := fun (w' : World) (hb : Below wr.heap.size wr w') => joined_any _ ps w' (hpp.below hb) (by omega) (by omega)
        have cS := fun (w' : World) (hb : Below wr.heap.size wr w') => sum_any _ ps.flatten w' (hby.below hb) (by omega)
        have cR := fun (w' : World) (hb : Below wr.heap.size wr w') => refSum_any _ ps.flatten w' (hby.below hb) (by omega)
        generalize ps.flatten = al at *
        obtain ⟨X, hX⟩ : ∃ X, X = ((sumI al).map (Value.int .u8)).toArray := ⟨_, rfl⟩
        rw [← hX] at cJ cS cR
        have HX := Lib.hid hX
        have CJ := Lib.hid cJ
        have CS := Lib.hid cS
        have CR := Lib.hid cR
        clear hX cJ cS cR
        have HB := Lib.hid hB
        clear hB hO hby hpp
        go_wp2_with fail
        refine (CJ.out _ (Below.refl _ _)).mono ?_; rintro e w2 ⟨rfl, hsl, hb2⟩
        go_wp2_with fail
        refine (CS.out _ hb2).mono ?_; rintro e w3 ⟨rfl, _, hb3'⟩
        have hb3 := hb2.trans (hb3'.mono hb2.size)
        have heq := key_same 25 Try.underlying25 X al HX.out hsl
        have heq2 := key_same 24 Try.underlying24 X al HX.out hsl
        clear hb2 hb3'
        go_wp2_with fail
        refine (CS.out _ hb3).mono ?_; rintro e w4 ⟨rfl, _, hb4'⟩
        have hb4 := hb3.trans (hb4'.mono hb3.size)
        clear hb3 hb4'
        go_wp2_with fail
        refine (CR.out _ hb4).mono ?_; rintro e w5 ⟨rfl, hb5'⟩
        have hb5 := hb4.trans (hb5'.mono hb4.size)
        go_wp2_with fail
        go_ret
        exact ⟨rfl, HB.out.trans (hb5.mono HB.out.size)⟩

set_option maxRecDepth 100000 in
theorem joins_lifted (os : Os) (started : os.Started) (H : Type) (enc : TypeId × Value → H) :
    ReturnsInHanded {} Try.checked os 4 .any (Rows.digestJoinsSpec.pre6 enc Try.prog Try.f4 Rows.digestJoinsRow.domain false) (Rows.digestJoinsSpec.post enc Try.prog Try.f4 false true false false) := by
  refine returnsInHanded_of_change (C := Try.checked) Try.own started (by kernel_rfl) Try.func4
    (ChangeSpec.witness6 (enc := enc) (C := Try.checked) false ⟨#[], #[.slice none 0 0], []⟩ 8 (by kernel_rfl) (by kernel_rfl) (by kernel_rfl) (by kernel_rfl)) ?_
  intro W base args ds gs before hval0 hW hcnd _
  have hval : ∀ (j : Nat) t v, Try.f4.params[j]? = some t → args[j]? = some v → Value.okWide Try.prog W .any base t v := hval0
  have hW' := hW
  obtain ⟨p, q, hA0, hV, hbe, hfz, hnd⟩ := hW
  have hA : DataW.TrodAll enc Try.prog W 0 (fun _ => true) true Try.f4.params.toList args.toList ds p := hA0
  rw [Try.params4] at hA hval
  obtain ⟨v0, d0, rfl, rfl, h0⟩ := trodAll_one hA
  obtain ⟨zs, hb, hzl, hq⟩ := open_parts Try.underlying29 Try.underlying22 Try.underlying5 (by kernel_rfl) byteCells (hval 0 _ v0 rfl rfl) h0
  clear hA0 hval0 hfz hnd
  refine (joins_any v0 zs W hb hzl hq).mono fun e W' ⟨he, hb⟩ => ?_
  subst he
  obtain rfl : gs = [] := (trodVars_none hV).1
  exact ⟨_, rfl, law_post Try.laidOut hW' rfl (by rw [Try.params4]; decide +kernel) (tb := 4) rfl Try.underlying4 hb rfl⟩

theorem joins_holds : Rows.DigestJoinsSaid :=
  OpenClaim.holds_of_wide 4 Try.f4 rfl rfl rfl rfl rfl rfl rfl ⟨rfl, rfl, rfl, rfl, rfl⟩ rfl rfl rfl rfl rfl (by kernel_rfl) Try.func4 (by kernel_rfl)
    (of_decide_eq_true (by kernel_rfl)) (by unfold Func.isWrapper; first | (rw [if_pos (by decide +kernel)]; kernel_rfl) | (rw [if_neg (by decide +kernel)]; exact ⟨rfl, rfl⟩))
    (fun os started H enc _ => joins_lifted os started H enc)
end Go.Proofs.Ytigpccfglicjeaa
