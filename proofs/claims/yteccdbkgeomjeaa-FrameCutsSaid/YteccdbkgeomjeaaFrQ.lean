/- The reference's 'Scan'. -/
import Derived.Test.YteccdbkgeomjeaaFrP
namespace Go.Proofs.Yteccdbkgeomjeaa
open Go.RowKit

theorem nextF_short {q : List Int} (h : q.length < 9 ∨ (q.length : Int) < numI q + 9) : nextF q = none := by
  unfold nextF sizeF
  rw [if_neg]
  rw [if_neg (by omega)]
  simp
theorem numI_take {q : List Int} {n : Nat} (hn : 4 ≤ n) : numI (q.take n) = numI q := by
  have e : ∀ i, i < 4 → (q.take n).getD i 0 = q.getD i 0 := fun i hi => by
    rw [List.getD_eq_getElem?_getD, List.getElem?_take_of_lt (by omega), List.getD_eq_getElem?_getD]
  rw [numI_is, numI_is, e 0 (by omega), e 1 (by omega), e 2 (by omega), e 3 (by omega)]
theorem nextF_ref {q : List Int} (hy : Byt q) {n : Nat} (hn : numI q + 9 = n) (hle : n ≤ q.length) :
    nextF q = if (decodeI (q.take n)).2.2 = 0 then some ((decodeI (q.take n)).1, (decodeI (q.take n)).2.1, n) else none := by
  have ⟨n0, n1⟩ := numI_bounds hy
  have hn9 : 9 ≤ n := by omega
  have htl : (q.take n).length = n := by rw [List.length_take]; omega
  have hti := numI_take (q := q) (n := n) (by omega)
  by_cases h8 : numI q ≤ 8192
  · have h1 : sizeF q = ((n : Int), true) := by unfold sizeF; rw [if_pos ⟨by omega, h8, by omega⟩, hn]
    have h2 : sizeF (q.take n) = ((n : Int), true) := by unfold sizeF; rw [hti, htl, if_pos ⟨by omega, h8, by omega⟩, hn]
    have h3 : decodeI (q.take n) = decI (q.take n) := by unfold decodeI; rw [h2, htl, if_pos ⟨rfl, rfl⟩]
    unfold nextF
    rw [h1, if_pos rfl, h3, Int.toNat_natCast]
  · have h1 : sizeF q = (0, false) := by unfold sizeF; rw [if_neg (by omega)]
    have h2 : sizeF (q.take n) = (0, false) := by unfold sizeF; rw [hti, htl, if_neg (by omega)]
    have h3 : decodeI (q.take n) = (0, [], 2) := by unfold decodeI; rw [h2, if_neg (by simp)]
    unfold nextF
    rw [h1, h3]; rfl
/-- The reference's frames in memory. -/
def cellsR (fs : List (Int × List Int)) : List Value := fs.flatMap fun t => [.int .i64 t.1, .string (strOfNums t.2)]
theorem cellsR_append (a b : List (Int × List Int)) : cellsR (a ++ b) = cellsR a ++ cellsR b := by unfold cellsR; rw [List.flatMap_append]
theorem cellsR_get : ∀ (xs : List (Int × List Int)) (i : Nat) (t : Int × List Int), xs[i]? = some t → (cellsR xs)[2 * i]? = some (.int .i64 t.1) ∧ (cellsR xs)[2 * i + 1]? = some (.string (strOfNums t.2))
  | [], _, _, h => by cases h
  | t :: xs, 0, t', h => by cases h; exact ⟨rfl, rfl⟩
  | t :: xs, i + 1, t', h => by
    have := cellsR_get xs i t' (by simpa using h)
    have e : cellsR (t :: xs) = .int .i64 t.1 :: .string (strOfNums t.2) :: cellsR xs := by unfold cellsR; rw [List.flatMap_cons]; rfl
    rw [e, show 2 * (i + 1) = 2 * i + 1 + 1 by omega]
    exact this
def Frr (w : World) (base : Nat) (v : Value) (fs : List (Int × List Int)) : Prop := w.ownsRow base 42 2 v fs.length (cellsR fs)
theorem refFrameInfo : (Try.prog.info? 42).map (fun i => (i.zero, i.size, i.bytes)) = some (some (.agg #[.int .i64 0, .string ⟨#[]⟩]), 2, 24) := by kernel_rfl
theorem ownsRow_keep {w w' : World} {base : Nat} {e : TypeId} {size n : Nat} {v : Value} {xs : List Value} (h : w.ownsRow base e size v n xs) (hb : Below w.heap.size w w') : w'.ownsRow base e size v n xs := by
  refine ⟨h.1, ?_⟩
  rcases h.2 with h1 | ⟨g, cap, cur, h1, h2, h3, h4⟩
  · exact .inl h1
  · refine .inr ⟨g, cap, cur, h1, h2, ?_, h4⟩
    rw [hb.block g ?_]
    · exact h3
    · by_cases k : g < w.heap.size
      · exact k
      · rw [Array.getElem?_eq_none (by omega)] at h3; cases h3
theorem ownsRow_slice {w : World} {base : Nat} {e : TypeId} {size n : Nat} {v : Value} {xs : List Value} (h : w.ownsRow base e size v n xs) : ∃ a c, v = .slice a n c := by
  rcases h.2 with ⟨rfl, h0⟩ | ⟨g, cap, cur, rfl, _⟩
  · exact ⟨none, 0, by rw [h0]⟩
  · exact ⟨_, _, rfl⟩
theorem wpList_append_ref {ops : Array Oper} {rest : List Oper} {o : Oper} {a : Act} {w : World} {Q : Exit → Act → World → Prop} (hgd : o.guard = none) (s x : Operand)
    (ho : o.op = .call { callee := .builtin .append, args := #[s, x], argTypes := #[49, 49] })
    (base : Nat) (v : Value) (xs : List (Int × List Int)) (k : Int) (p : List Int) (hs : a.eval s = v) (hown : Frr w base v xs) (b : Nat) (hx : a.eval x = .slice (some ⟨b, 0, none⟩) 1 1)
    (hb : Blk w b 42 [.int .i64 k, .string (strOfNums p)]) (hle : xs.length ≤ 1000000) (hbase : base ≤ w.heap.size)
    (h : ∀ v' w', Frr w' base v' (xs ++ [(k, p)]) → w.grownBy w' v.ownBlock → wpList Try.prog ops Q rest (a.put o.dst v') w') : wpList Try.prog ops Q (o :: rest) a w := by
  obtain ⟨i0, hi, hz0, hz1, hz2⟩ := info_parts refFrameInfo
  refine wpList_append_own w hgd s x 49 ho base 42 i0 (.agg #[.int .i64 0, .string ⟨#[]⟩]) 2 24 Try.underlying49 hi hz0 hz1 hz2 rfl (by decide) v xs.length (cellsR xs) hs hown ⟨b, 0, none⟩ 1 1 [.int .i64 k, .string (strOfNums p)] hx
    rfl (fun j y hy => by rw [Addr.add_mid, Nat.zero_add]; exact hb.cell hy) (fun y hy => by
      rcases List.mem_cons.1 hy with rfl | hy
      · rfl
      · rw [List.mem_singleton] at hy; subst hy; rfl) (by unfold maxLen; omega) (by omega) hbase ?_
  intro v' w' h1 h2 _
  refine h v' w' ?_ h2
  unfold Frr
  rw [List.length_append, cellsR_append]; exact h1
def RefScanR (w : World) (p : List Int) (e : Ending) (w' : World) : Prop := ∃ v fs m, e = .returned (.tuple #[v, .int .i64 (m : Nat)]) ∧ Scanned p fs m ∧ Frr w' w.heap.size v fs ∧ Below w.heap.size w w'

set_option maxRecDepth 100000 in
set_option maxHeartbeats 8000000 in
theorem refScan_any (p : List Int) (w : World) (hy : Byt p) (hl : p.length ≤ 100000) :
    Calls Try.prog 19 #[.string (strOfNums p)] w (RefScanR w p) := by
  have hsz : (strOfNums p).size = p.length := strOfNums_size p
  obtain ⟨S, hS⟩ : ∃ S, S = strOfNums p := ⟨_, rfl⟩
  rw [← hS] at hsz ⊢
  have HS := Lib.hid hS
  have HY := Lib.hid hy
  clear hS hy
  go_enter Try.func19, Try.ntmps19
  go_wp2_with fail
  go_loopw [4, 5, 6, 7, 8] (fun s4 s5 _ _ _ wr => ∃ (F : Nat) (fs : List (Int × List Int)) (g : Option Addr) (c : Nat), F ≤ p.length ∧ s5 = .int .i64 F ∧ s4 = .slice g fs.length c ∧ Frr wr w.heap.size s4 fs ∧ Below w.heap.size w wr ∧ fs.length ≤ F ∧
      ∀ fs' m, Scanned (p.drop F) fs' m → Scanned p (fs ++ fs') (F + m)) (fun _ s5 _ _ _ _ => p.length - (intOf s5).toNat)
  case atStart => exact ⟨0, [], none, 0, by omega, rfl, rfl, World.ownsRow_nil _ _ _ _, Below.refl _ _, by simp, fun fs m h => by simpa using h⟩
  case round =>
    obtain ⟨F, fs, g, c, hF, rfl, rfl, hO, hB, hxl, hSc⟩ := hrel
    have hyd := HY.out.drop F
    have hdl : (p.drop F).length = p.length - F := List.length_drop
    have hsub : IntKind.i64.wrap ((p.length : Int) - F) = p.length - F := IntWalk.i64_in _ (by omega)
    have HO := Lib.hid hO
    have HB := Lib.hid hB
    have HSC := Lib.hid hSc
    by_cases h9 : (p.length : Int) - F < 9
    · have HNX := Lib.hid (nextF_short (q := p.drop F) (.inl (by omega)))
      clear hO hB hSc hyd hdl
      go_wp2_with fail
      go_ret2
      exact ⟨_, fs, F, rfl, by have := HSC.out [] 0 (.stop HNX.out); simpa using this, HO.out, HB.out⟩
    · have cN := fun w' => number_any (p.drop F) hyd (by omega) w'
      have ⟨n0, n1⟩ := numI_bounds hyd
      obtain ⟨n, hn⟩ : ∃ n : Nat, numI (p.drop F) = n := ⟨(numI (p.drop F)).toNat, by omega⟩
      have hs1 : ∀ w, (Instr.slice 9 (.string S) (some (.int .i64 F)) none none).run Try.prog w = .ok (.string (strOfNums (p.drop F))) w := fun w => by rw [HS.out]; exact str_from p F hF w
      have hnb : n ≤ 4294967295 := by omega
      rw [hn] at cN
      have CN := Lib.hid cN
      by_cases hbig : (p.length : Int) - F < (n : Int) + 9
      · have HNX := Lib.hid (nextF_short (q := p.drop F) (.inr (by omega)))
        clear hO hB hSc hyd hdl cN hn
        go_wp2_with fail
        refine (CN.out _).mono ?_; rintro e w1 ⟨rfl, k1, hk1⟩
        have HB1 : Hid (Below w.heap.size w w1) := by rw [hk1]; exact Below.drewN HB.out _
        have HO1 : Hid (Frr w1 w.heap.size (.slice g fs.length c) fs) := by rw [hk1]; exact HO.out
        clear hk1
        go_wp2_with fail
        go_ret2
        exact ⟨_, fs, F, rfl, by have := HSC.out [] 0 (.stop HNX.out); simpa using this, HO1.out, HB1.out⟩
      · have hle : n + 9 ≤ (p.drop F).length := by omega
        have hnx := nextF_ref hyd (n := n + 9) (by omega) hle
        have cD := fun w' => refDecode_any ((p.drop F).take (n + 9)) w' (hyd.take _) (by rw [List.length_take]; omega)
        have hs2 : ∀ w, (Instr.slice 9 (.string S) (some (.int .i64 F)) (some (.int .i64 ((F : Int) + ((n : Int) + 9)))) none).run Try.prog w = .ok (.string (strOfNums ((p.drop F).take (n + 9)))) w := fun w => by
          have := str_slice p F (F + (n + 9)) (by omega) (by omega) w
          rw [show F + (n + 9) - F = n + 9 by omega] at this
          rw [HS.out]
          rwa [show ((F + (n + 9) : Nat) : Int) = (F : Int) + ((n : Int) + 9) by omega] at this
        generalize strOfNums ((p.drop F).take (n + 9)) = T at *
        generalize strOfNums (p.drop F) = D at *
        generalize decodeI ((p.drop F).take (n + 9)) = r at *
        obtain ⟨rk, rp, rc⟩ := r
        simp only at cD hnx
        have HNX := Lib.hid hnx
        have CD := Lib.hid cD
        clear hO hB hSc hyd hdl cN hn hle hnx cD
        go_wp2_with fail
        refine (CN.out _).mono ?_; rintro e w1 ⟨rfl, k1, hk1⟩
        have HB1 : Hid (Below w.heap.size w w1) := by rw [hk1]; exact Below.drewN HB.out _
        have HO1 : Hid (Frr w1 w.heap.size (.slice g fs.length c) fs) := by rw [hk1]; exact HO.out
        clear hk1
        go_wp2_with fail
        refine (CD.out _).mono ?_; rintro e w2 ⟨rfl, hb2⟩
        have HB2 := Lib.hid (HB1.out.trans (hb2.mono HB1.out.size))
        have HO2 := Lib.hid (show Frr w2 w.heap.size (.slice g fs.length c) fs from ownsRow_keep HO1.out hb2)
        clear hb2
        by_cases hrc : rc = 0
        · rw [if_pos hrc] at HNX
          subst hrc
          go_upto_region 9 with fail
          refine wp_world fun w5 hw5 => ?_
          have hb25 : Below w2.heap.size w2 w5 := by rw [hw5]; exact (Below.refl _ _).alloc (Nat.le_refl _) _
          have hk5 : Blk w5 w2.heap.size 42 [.int .i64 rk, .string (strOfNums rp)] := by rw [hw5]; exact Blk.new w2 42 [.int .i64 rk, .string (strOfNums rp)]
          have c0 := hk5.cell (i := 0) rfl
          have c1 := hk5.cell (i := 1) rfl
          have HFR : Hid (Frr (w5.alloc (.cells #[.int .i64 rk, .string (strOfNums rp)] 42)) w.heap.size (.slice g fs.length c) fs) := ownsRow_keep (ownsRow_keep HO2.out hb25) ((Below.refl _ _).alloc (Nat.le_refl _) _)
          have HNB : Hid (Blk (w5.alloc (.cells #[.int .i64 rk, .string (strOfNums rp)] 42)) w5.heap.size 42 [.int .i64 rk, .string (strOfNums rp)]) := Blk.new w5 42 [.int .i64 rk, .string (strOfNums rp)]
          have hb5 := HB2.out.trans (hb25.mono HB2.out.size)
          have hba : Below w.heap.size w (w5.alloc (.cells #[.int .i64 rk, .string (strOfNums rp)] 42)) := hb5.alloc hb5.size _
          have HBA := Lib.hid hba
          clear hw5 hb25 hk5 hb5 hba
          go_wp2_with (with_reducible refine wpList_append_ref rfl (.tmp 43) (.tmp 45) rfl w.heap.size (.slice g fs.length c) fs rk rp ?_ HFR.out w5.heap.size ?_ HNB.out ?_ HBA.out.size ?_)
          case refine_1 => rfl
          case refine_2 => rfl
          case refine_3 => omega
          intro v6 w6 hF6 hg6
          have hB6 : Below w.heap.size w w6 := HBA.out.trans ((Below.refl w.heap.size _).grown hg6 HBA.out.size fun k hk => (World.ownsRow.lt HFR.out k hk).1)
          obtain ⟨g6, c6, hv6⟩ := ownsRow_slice hF6
          have hl6 : (fs ++ [(rk, rp)]).length = fs.length + 1 := by simp
          obtain ⟨ys, hys⟩ : ∃ ys, ys = fs ++ [(rk, rp)] := ⟨_, rfl⟩
          rw [← hys] at hF6 hv6 hl6
          subst hv6
          have HYS := Lib.hid hys
          have HF6 := Lib.hid hF6
          have HB6 := Lib.hid hB6
          have HL6 := Lib.hid hl6
          clear hF6 hg6 hB6 hl6 hys c0 c1 HFR HNB HBA
          go_wp2_with fail
          go_roundw
          case rel => exact ⟨F + (n + 9), ys, g6, c6, by omega, by go_num, rfl, HF6.out, HB6.out, by rw [HL6.out]; omega, fun fs' m h => by
            have := HSC.out ((rk, rp) :: fs') (n + 9 + m) (.step HNX.out (by rw [List.drop_drop]; exact h))
            rw [HYS.out, List.append_assoc, Nat.add_assoc]
            exact this⟩
          case measure => simp [intOf]; omega
        · rw [if_neg hrc] at HNX
          have hrn : (rc == 0) = false := by simpa using hrc
          clear hrc
          go_wp2_with fail
          go_ret2
          exact ⟨_, fs, F, rfl, by have := HSC.out [] 0 (.stop HNX.out); simpa using this, ownsRow_keep HO2.out ((Below.refl _ _).alloc (Nat.le_refl _) _), HB2.out.alloc HB2.out.size _⟩
end Go.Proofs.Yteccdbkgeomjeaa
