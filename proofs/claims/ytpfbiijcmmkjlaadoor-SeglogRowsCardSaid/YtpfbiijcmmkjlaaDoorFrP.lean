/- Rows of frames: what the front is; frames in memory. Package frame: 'Scan'. -/
import Derived.Test.YtpfbiijcmmkjlaaDoorFrN
namespace Go.Proofs.YtpfbiijcmmkjlaaDoor.Fr
open Go.RowKit
set_option maxRecDepth 100000

/-- The frame that bytes begin with: kind, payload, size. -/
def nextF (p : List Int) : Option (Int × List Int × Nat) :=
  if (sizeF p).2 = true then if (decI (p.take (sizeF p).1.toNat)).2.2 = 0 then some ((decI (p.take (sizeF p).1.toNat)).1, (decI (p.take (sizeF p).1.toNat)).2.1, (sizeF p).1.toNat) else none else none
/-- The frames of the front of bytes, and how many bytes it has. -/
inductive Scanned : List Int → List (Int × List Int) → Nat → Prop
  | stop {p : List Int} : nextF p = none → Scanned p [] 0
  | step {p : List Int} {k : Int} {q : List Int} {n m : Nat} {fs : List (Int × List Int)} : nextF p = some (k, q, n) → Scanned (p.drop n) fs m → Scanned p ((k, q) :: fs) (n + m)
theorem Scanned.same {p : List Int} {fs : List (Int × List Int)} {m : Nat} (h : Scanned p fs m) : ∀ {fs' : List (Int × List Int)} {m' : Nat}, Scanned p fs' m' → fs = fs' ∧ m = m' := by
  induction h with
  | stop h =>
    intro fs' m' h'
    cases h' with
    | stop => exact ⟨rfl, rfl⟩
    | step g _ => rw [h] at g; cases g
  | step h _ ih =>
    intro fs' m' h'
    cases h' with
    | stop g => rw [h] at g; cases g
    | step g k =>
      rw [h] at g
      injection g with g
      injection g with g1 g
      injection g with g2 g3
      subst g1 g2 g3
      obtain ⟨rfl, rfl⟩ := ih k
      exact ⟨rfl, rfl⟩
theorem sizeF_true {p : List Int} (hy : Byt p) (h : (sizeF p).2 = true) : ∃ n : Nat, sizeF p = ((n : Int), true) ∧ 9 ≤ n ∧ n ≤ p.length ∧ n ≤ 8201 ∧ numI p + 9 = n := by
  have h0 := (numI_bounds hy).1
  unfold sizeF at *
  split at h
  · rename_i hh
    rw [if_pos hh]
    exact ⟨(numI p + 9).toNat, by rw [Int.toNat_of_nonneg (by omega)], by omega, by omega, by omega, by omega⟩
  · cases h

theorem nextF_size {p : List Int} (hy : Byt p) {k : Int} {q : List Int} {n : Nat} (h : nextF p = some (k, q, n)) : 9 ≤ n ∧ n ≤ p.length := by
  unfold nextF at h
  by_cases hw : (sizeF p).2 = true
  · obtain ⟨m, hm, m9, ml, _, _⟩ := sizeF_true hy hw
    rw [hm, if_pos rfl, Int.toNat_natCast] at h
    split at h
    · injection h with h
      injection h with _ h
      injection h with _ h
      omega
    · cases h
  · rw [if_neg hw] at h; cases h
theorem Scanned.len {p : List Int} {fs : List (Int × List Int)} {m : Nat} (h : Scanned p fs m) : Byt p → 9 * fs.length ≤ m ∧ m ≤ p.length := by
  induction h with
  | stop _ => intro _; simp
  | step h _ ih =>
    intro hy
    have h1 := nextF_size hy h
    have h2 := ih (hy.drop _)
    rw [List.length_drop] at h2
    rw [List.length_cons]
    omega

/-- Frames in memory: kind, payload, the payload's value. -/
def cellsF (xs : List (Int × List Int × Value)) : List Value := xs.flatMap fun t => [.int .i64 t.1, t.2.2]
theorem cellsF_append (a b : List (Int × List Int × Value)) : cellsF (a ++ b) = cellsF a ++ cellsF b := by unfold cellsF; rw [List.flatMap_append]
theorem cellsF_length : ∀ xs : List (Int × List Int × Value), (cellsF xs).length = xs.length * 2
  | [] => rfl
  | t :: xs => by
    have := cellsF_length xs
    unfold cellsF at *
    rw [List.flatMap_cons, List.length_append, this, List.length_cons]; simp; omega
theorem cellsF_get : ∀ (xs : List (Int × List Int × Value)) (i : Nat) (t : Int × List Int × Value), xs[i]? = some t → (cellsF xs)[2 * i]? = some (.int .i64 t.1) ∧ (cellsF xs)[2 * i + 1]? = some t.2.2
  | [], _, _, h => by cases h
  | t :: xs, 0, t', h => by cases h; exact ⟨rfl, rfl⟩
  | t :: xs, i + 1, t', h => by
    have := cellsF_get xs i t' (by simpa using h)
    have e : cellsF (t :: xs) = .int .i64 t.1 :: t.2.2 :: cellsF xs := by unfold cellsF; rw [List.flatMap_cons]; rfl
    rw [e, show 2 * (i + 1) = 2 * i + 1 + 1 by omega]
    exact this
structure Frs (w : World) (base : Nat) (v : Value) (xs : List (Int × List Int × Value)) : Prop where
  own : w.ownsRow base 43 2 v xs.length (cellsF xs)
  pay : ∀ t ∈ xs, OwnB w base t.2.2 t.2.1
theorem frameInfo : (Tryd.prog.info? 43).map (fun i => (i.zero, i.size, i.bytes)) = some (some (.agg #[.int .i64 0, .slice none 0 0]), 2, 32) := by kernel_rfl
theorem Frs.nil (w : World) (base : Nat) : Frs w base (.slice none 0 0) [] := ⟨World.ownsRow_nil _ _ _ _, fun t ht => by cases ht⟩
theorem Frs.keep {w w' : World} {base : Nat} {v : Value} {xs : List (Int × List Int × Value)} (h : Frs w base v xs) (hb : Below w.heap.size w w') : Frs w' base v xs := by
  refine ⟨⟨h.own.1, ?_⟩, fun t ht => (h.pay t ht).keep hb⟩
  rcases h.own.2 with h1 | ⟨g, cap, cur, h1, h2, h3, h4⟩
  · exact .inl h1
  · refine .inr ⟨g, cap, cur, h1, h2, ?_, h4⟩
    rw [hb.block g ?_]
    · exact h3
    · by_cases k : g < w.heap.size
      · exact k
      · rw [Array.getElem?_eq_none (by omega)] at h3; cases h3
/-- Bytes of one's own lie elsewhere than frames of one's own. -/
theorem OwnB.grownF {w w' : World} {base : Nat} {u v : Value} {p : List Int} {n : Nat} {cs : List Value} (h : OwnB w base u p) (hv : w.ownsRow base 43 2 v n cs) (hg : w.grownBy w' v.ownBlock) : OwnB w' base u p := by
  refine ⟨h.1, ?_⟩
  rcases h.2 with h1 | ⟨g, cap, cur, h1, h2, h3, h4⟩
  · exact .inl h1
  · refine .inr ⟨g, cap, cur, h1, h2, ?_, h4⟩
    rw [hg.block g ?_ ?_]
    · exact h3
    · by_cases k : g < w.heap.size
      · exact k
      · rw [Array.getElem?_eq_none (by omega)] at h3; cases h3
    · intro e
      rcases hv.2 with ⟨hn, _⟩ | ⟨x, cap', cur', hx, _, hh, _⟩
      · rw [hn] at e; cases e
      · rw [hx] at e
        have : g = x := Option.some.inj e
        subst this
        rw [h3] at hh
        injection hh with hh
        injection hh with _ hh
        cases hh
end Go.Proofs.YtpfbiijcmmkjlaaDoor.Fr
namespace Go.Proofs.YtpfbiijcmmkjlaaDoor.Fr
open Go.RowKit

/-- One more frame that is laid behind. -/
theorem wpList_append_frame {ops : Array Oper} {rest : List Oper} {o : Oper} {a : Act} {w : World} {Q : Exit → Act → World → Prop} (hgd : o.guard = none) (s x : Operand)
    (ho : o.op = .call { callee := .builtin .append, args := #[s, x], argTypes := #[72, 72] })
    (base : Nat) (v : Value) (xs : List (Int × List Int × Value)) (k : Int) (p : List Int) (u : Value) (hs : a.eval s = v) (hown : Frs w base v xs) (hpay : OwnB w base u p) (hu : u.oneCell' = true) (b : Nat) (hx : a.eval x = .slice (some ⟨b, 0, none⟩) 1 1)
    (hb : Blk w b 43 [.int .i64 k, u]) (hle : xs.length ≤ 1000000) (hbase : base ≤ w.heap.size)
    (h : ∀ v' w', Frs w' base v' (xs ++ [(k, p, u)]) → w.grownBy w' v.ownBlock → wpList Tryd.prog ops Q rest (a.put o.dst v') w') : wpList Tryd.prog ops Q (o :: rest) a w := by
  obtain ⟨i0, hi, hz0, hz1, hz2⟩ := info_parts frameInfo
  refine wpList_append_own w hgd s x 72 ho base 43 i0 (.agg #[.int .i64 0, .slice none 0 0]) 2 32 Tryd.underlying72 hi hz0 hz1 hz2 rfl (by decide) v xs.length (cellsF xs) hs hown.own ⟨b, 0, none⟩ 1 1 [.int .i64 k, u] hx
    rfl (fun j y hy => by rw [Addr.add_mid, Nat.zero_add]; exact hb.cell hy) (fun y hy => by
      rcases List.mem_cons.1 hy with rfl | hy
      · rfl
      · rw [List.mem_singleton] at hy; subst hy; exact hu) (by unfold maxLen; omega) (by omega) hbase ?_
  intro v' w' h1 h2 _
  refine h v' w' ⟨?_, fun t ht => ?_⟩ h2
  · rw [List.length_append, cellsF_append]; exact h1
  · rcases List.mem_append.1 ht with ht | ht
    · exact (hown.pay t ht).grownF hown.own h2
    · rw [List.mem_singleton] at ht
      subst ht
      exact hpay.grownF hown.own h2
theorem Frs.slice {w : World} {base : Nat} {v : Value} {xs : List (Int × List Int × Value)} (h : Frs w base v xs) : ∃ a c, v = .slice a xs.length c := by
  rcases h.own.2 with ⟨rfl, h0⟩ | ⟨g, cap, cur, rfl, _⟩
  · exact ⟨none, 0, by rw [h0]⟩
  · exact ⟨_, _, rfl⟩
theorem Frs.below {w w' : World} {base : Nat} {v : Value} {xs : List (Int × List Int × Value)} (h : Frs w base v xs) (hg : w.grownBy w' v.ownBlock) (hb : base ≤ w.heap.size) : Below base w w' :=
  (Below.refl base w).grown hg hb fun k hk => (h.own.lt k hk).1
theorem Frs.mono {w : World} {base base' : Nat} {v : Value} {xs : List (Int × List Int × Value)} (h : Frs w base v xs) (hb : base' ≤ base) : Frs w base' v xs := by
  refine ⟨⟨h.own.1, ?_⟩, fun t ht => (h.pay t ht).mono hb⟩
  rcases h.own.2 with h1 | ⟨g, cap, cur, h1, h2, h3, h4⟩
  · exact .inl h1
  · exact .inr ⟨g, cap, cur, h1, Nat.le_trans hb h2, h3, h4⟩
def plainF (xs : List (Int × List Int × Value)) : List (Int × List Int) := xs.map fun t => (t.1, t.2.1)
/-- What Scan answers. -/
def ScanR (w : World) (p : List Int) (e : Ending) (w' : World) : Prop := ∃ v xs m, e = .returned (.tuple #[v, .int .i64 (m : Nat)]) ∧ Scanned p (plainF xs) m ∧ Frs w' w.heap.size v xs ∧ Below w.heap.size w w'

set_option maxRecDepth 100000 in
set_option maxHeartbeats 8000000 in
theorem scan_any (v : Value) (p : List Int) (w : World) (hb : BytesE w v p) (hy : Byt p) (hl : p.length ≤ 1000000) :
    Calls Tryd.prog 25 #[v] w (ScanR w p) := by
  obtain ⟨va, vc, rfl⟩ := hb.slice
  have HB := Lib.hid hb
  have HY := Lib.hid hy
  clear hb hy
  go_enter Tryd.func25, Tryd.ntmps25
  go_wp2_with fail
  refine (newTable_any _).mono ?_; rintro e w1 ⟨rfl, hk1, hb1⟩
  have HK1 := Lib.hid hk1
  have HB1 := Lib.hid hb1
  have hz1 := hk1.lt
  clear hk1 hb1
  go_wp2_with fail
  go_loopw [4, 6, 7, 8, 9, 10] (fun s4 s6 _ _ _ _ wr => ∃ (F : Nat) (xs : List (Int × List Int × Value)) (g : Option Addr) (c : Nat), F ≤ p.length ∧ s6 = .int .i64 F ∧ s4 = .slice g xs.length c ∧ Frs wr w1.heap.size s4 xs ∧ Below w1.heap.size w1 wr ∧ xs.length ≤ F ∧
      ∀ fs m, Scanned (p.drop F) fs m → Scanned p (plainF xs ++ fs) (F + m)) (fun _ s6 _ _ _ _ _ => p.length - (intOf s6).toNat)
  case atStart => exact ⟨0, [], none, 0, by omega, rfl, rfl, Frs.nil _ _, Below.refl _ _, by simp, fun fs m h => by simpa [plainF] using h⟩
  case round =>
    obtain ⟨F, xs, g, c, hF, rfl, rfl, hO, hB, hxl, hSc⟩ := hrel
    obtain ⟨sa, sc, hs1, hb1⟩ := slice_from HB.out F (p.length - F) (by omega)
    have hyd := HY.out.drop F
    have hdl : (p.drop F).length = p.length - F := List.length_drop
    have cF := fun (w' : World) (hbw : Below w.heap.size w w') => frameSize_any _ (p.drop F) w' (hb1.below hbw) hyd (by omega)
    have hs1' : ∀ w : World, (Instr.slice 32 (.slice va p.length vc) (some (.int .i64 F)) none none).run Tryd.prog w = .ok (.slice sa (p.length - F) sc) w := hs1
    have HO := Lib.hid hO
    have HB2 := Lib.hid hB
    have HBW := Lib.hid (HB1.out.trans (hB.mono (Nat.le_of_lt hz1)))
    have HSC := Lib.hid hSc
    by_cases hw : (sizeF (p.drop F)).2 = true
    · obtain ⟨n, hn, n9, nle, n8, nI⟩ := sizeF_true hyd hw
      have HNX : Hid (nextF (p.drop F) = if (decI ((p.drop F).take n)).2.2 = 0 then some ((decI ((p.drop F).take n)).1, (decI ((p.drop F).take n)).2.1, n) else none) := by
        show _ = _; unfold nextF; rw [hn, if_pos rfl, Int.toNat_natCast]
      rw [hn] at cF
      rw [hdl] at nle
      obtain ⟨ta, tc, hs2, hb2⟩ := slice_bytes HB.out F n (by omega)
      have hs2' : ∀ w : World, (Instr.slice 32 (.slice va p.length vc) (some (.int .i64 F)) (some (.int .i64 ((F : Int) + n))) none).run Tryd.prog w = .ok (.slice ta n tc) w := fun w => by
        have := hs2 w (F + n) rfl
        rwa [show ((F + n : Nat) : Int) = (F : Int) + n by omega] at this
      have htl : ((p.drop F).take n).length = n := by rw [List.length_take, hdl]; omega
      have cD := fun (w' : World) (hbw : Below w.heap.size w w') (ht : Blk w' w.heap.size 119 (tabI.map (Value.int .u32))) => decode_any w.heap.size _ ((p.drop F).take n) w' ht (hb2.below hbw) (hyd.take n) (by omega) (by omega)
      generalize decI ((p.drop F).take n) = r at *
      obtain ⟨rk, rp, rc⟩ := r
      simp only at cD HNX
      have CF := Lib.hid cF
      have CD := Lib.hid cD
      have hz2 := hB.size
      clear cF cD hs1 hs2 hb1 hb2 hyd hw hn htl hO hB hSc nI hdl
      go_wp2_with fail
      refine (CF.out _ HBW.out).mono ?_; rintro e w' ⟨rfl, rfl⟩
      go_wp2_with fail
      refine (CD.out _ HBW.out (Below.blk HB2.out hz1 HK1.out)).mono ?_; rintro e w4 ⟨v4, rfl, ho4, hb4⟩
      obtain ⟨g4, n4, c4, rfl⟩ : ∃ g n c, v4 = .slice g n c := by
        obtain ⟨g, c, h⟩ := ho4.slice
        exact ⟨g, _, c, h⟩
      have HO4 := Lib.hid ho4
      have HB4 := Lib.hid hb4
      clear ho4 hb4
      by_cases hrc : rc = 0
      · rw [if_pos hrc] at HNX
        subst hrc
        go_upto_region 8 with fail
        refine wp_world fun w5 hw5 => ?_
        have hb45 : Below w4.heap.size w4 w5 := by rw [hw5]; exact (Below.refl _ _).alloc (Nat.le_refl _) _
        have hk5 : Blk w5 w4.heap.size 43 [.int .i64 rk, .slice g4 n4 c4] := by rw [hw5]; exact Blk.new w4 43 [.int .i64 rk, .slice g4 n4 c4]
        have c0 := hk5.cell (i := 0) rfl
        have c1 := hk5.cell (i := 1) rfl
        have hbr5 : Below wr.heap.size wr w5 := HB4.out.trans (hb45.mono HB4.out.size)
        have HFR : Hid (Frs (w5.alloc (.cells #[.int .i64 rk, .slice g4 n4 c4] 43)) w1.heap.size (.slice g xs.length c) xs) := (HO.out.keep hbr5).keep ((Below.refl _ _).alloc (Nat.le_refl _) _)
        have HPY : Hid (OwnB (w5.alloc (.cells #[.int .i64 rk, .slice g4 n4 c4] 43)) w1.heap.size (.slice g4 n4 c4) rp) := ((HO4.out.keep hb45).alloc _).mono hz2
        have HNB : Hid (Blk (w5.alloc (.cells #[.int .i64 rk, .slice g4 n4 c4] 43)) w5.heap.size 43 [.int .i64 rk, .slice g4 n4 c4]) := Blk.new w5 43 [.int .i64 rk, .slice g4 n4 c4]
        have hba : Below wr.heap.size wr (w5.alloc (.cells #[.int .i64 rk, .slice g4 n4 c4] 43)) := hbr5.alloc hbr5.size _
        have HBA := Lib.hid hba
        have HBS := Lib.hid (Nat.le_trans hz2 hba.size)
        clear hw5 hb45 hk5 hbr5 hba
        go_wp2_with (with_reducible refine wpList_append_frame rfl (.tmp 38) (.tmp 40) rfl w1.heap.size (.slice g xs.length c) xs rk rp (.slice g4 n4 c4) ?_ HFR.out HPY.out rfl w5.heap.size ?_ HNB.out ?_ HBS.out ?_)
        case refine_1 => rfl
        case refine_2 => rfl
        case refine_3 => omega
        intro v6 w6 hF6 hg6
        have hB6 : Below w1.heap.size w1 w6 := (HB2.out.trans (HBA.out.mono hz2)).trans (HFR.out.below hg6 HBS.out)
        obtain ⟨g6, c6, hv6⟩ := hF6.slice
        have hl6 : (xs ++ [(rk, rp, Value.slice g4 n4 c4)]).length = xs.length + 1 := by simp
        obtain ⟨ys, hys⟩ : ∃ ys, ys = xs ++ [(rk, rp, Value.slice g4 n4 c4)] := ⟨_, rfl⟩
        rw [← hys] at hF6 hv6 hl6
        subst hv6
        have HYS := Lib.hid hys
        have HF6 := Lib.hid hF6
        have HB6 := Lib.hid hB6
        have HL6 := Lib.hid hl6
        clear hF6 hg6 hB6 hl6 hys c0 c1 HFR HPY HNB HBA HBS
        go_wp2_with fail
        go_roundw
        case rel => exact ⟨F + n, ys, g6, c6, by omega, by go_num, rfl, HF6.out, HB6.out, by rw [HL6.out]; omega, fun fs m h => by
          have := HSC.out ((rk, rp) :: fs) (n + m) (.step HNX.out (by rw [List.drop_drop]; exact h))
          rw [HYS.out]
          unfold plainF at this ⊢
          rw [List.map_append, List.append_assoc, Nat.add_assoc]
          exact this⟩
        case measure => simp [intOf]; omega
      · rw [if_neg hrc] at HNX
        have hrn : (rc == 0) = false := by simpa using hrc
        clear hrc
        go_wp2_with fail
        go_ret2
        exact ⟨_, xs, F, rfl, by have := HSC.out [] 0 (.stop HNX.out); simpa using this, ((HO.out.keep HB4.out).keep ((Below.refl _ _).alloc (Nat.le_refl _) _)).mono (Nat.le_of_lt hz1), (HBW.out.trans (HB4.out.mono HBW.out.size)).alloc (Nat.le_trans HBW.out.size HB4.out.size) _⟩
    · have HNX : Hid (nextF (p.drop F) = none) := by show _ = _; unfold nextF; rw [if_neg hw]
      have hn : sizeF (p.drop F) = (0, false) := by
        unfold sizeF at hw ⊢
        split at hw
        · exact absurd rfl hw
        · rename_i hh; rw [if_neg hh]
      rw [hn] at cF
      have CF := Lib.hid cF
      clear cF hs1 hb1 hyd hw hn hO hB hSc hdl
      go_wp2_with fail
      refine (CF.out _ HBW.out).mono ?_; rintro e w' ⟨rfl, rfl⟩
      go_wp2_with fail
      go_ret2
      exact ⟨_, xs, F, rfl, by have := HSC.out [] 0 (.stop HNX.out); simpa using this, HO.out.mono (Nat.le_of_lt hz1), HBW.out⟩
end Go.Proofs.YtpfbiijcmmkjlaaDoor.Fr
