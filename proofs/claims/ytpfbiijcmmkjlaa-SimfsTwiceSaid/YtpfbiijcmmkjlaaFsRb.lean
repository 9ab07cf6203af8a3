/- The reference of layer 2 (rubricref02): what 'with' makes of names. -/
import Derived.Test.YtpfbiijcmmkjlaaFsRa
import Derived.Test.YtpfbiijcmmkjlaaFsSw
namespace Go.Proofs.Ytpfbiijcmmkjlaa
open Go.RowKit

theorem rnInfo : (Try.prog.info? 73).map (fun i => (i.zero, i.size, i.bytes)) = some (some (.agg #[.string ⟨#[]⟩, .int .i64 0]), 2, 24) := by kernel_rfl
/-- The cells of names. -/
def flatRN (l : List RN) : List Value := l.flatMap fun n => [.string n.1, .int .i64 n.2]
/-- Names in a row of one's own. -/
def OwnRN (base : Nat) (w : World) (v : Value) (l : List RN) : Prop := w.ownsRow base 73 2 v l.length (flatRN l)
theorem OwnRN.slice {base : Nat} {w : World} {v : Value} {l : List RN} (h : OwnRN base w v l) : ∃ a c, v = .slice a l.length c := by
  rcases h.2 with ⟨rfl, h0⟩ | ⟨x, cap, cur, rfl, _⟩
  · exact ⟨none, 0, by rw [h0]⟩
  · exact ⟨_, _, rfl⟩
/-- What 'with' makes of the names that are left. -/
def withGo (n : RN) : List RN → Bool → List RN
  | [], done => if done then [] else [n]
  | x :: l, done => if x.1 = n.1 then withGo n l done else if done = false ∧ Op.bytesLess n.1.toList x.1.toList = true then n :: x :: withGo n l true else x :: withGo n l done
def withR (l : List RN) (n : RN) : List RN := withGo n l (decide (n.2 < 0))
theorem withGo_drop (n : RN) (l : List RN) (d : Bool) {i : Nat} (hi : i < l.length) : withGo n (l.drop i) d =
    if (l[i]).1 = n.1 then withGo n (l.drop (i + 1)) d else if d = false ∧ Op.bytesLess n.1.toList (l[i]).1.toList = true then n :: l[i] :: withGo n (l.drop (i + 1)) true else l[i] :: withGo n (l.drop (i + 1)) d := by
  rw [List.drop_eq_getElem_cons hi]; rfl
theorem flatRN_snoc (l : List RN) (x : RN) : flatRN (l ++ [x]) = flatRN l ++ [.string x.1, .int .i64 x.2] := by simp [flatRN]
section
variable {base : Nat} {w w' : World} {v : Value} {l : List RN}
theorem OwnRN.own (h : OwnRN base w v l) : ∀ j, v.ownBlock = some j → base ≤ j := by
  rcases h.2 with ⟨rfl, _⟩ | ⟨x, cap, cur, rfl, hb, _⟩
  · intro j hj; cases hj
  · intro j hj; cases hj; exact hb
theorem OwnRN.lower {b' : Nat} (h : OwnRN base w v l) (hb : b' ≤ base) : OwnRN b' w v l := by
  refine ⟨h.1, ?_⟩
  rcases h.2 with h | ⟨x, cap, cur, h1, h2, h3⟩
  · exact .inl h
  · exact .inr ⟨x, cap, cur, h1, Nat.le_trans hb h2, h3⟩
theorem OwnRN.names (h : OwnRN base w v l) : RNames w v l := by
  rcases h.2 with ⟨rfl, h0⟩ | ⟨x, cap, cur, rfl, hb, hh, h1, h2, h3, h4⟩
  · exact .inl ⟨rfl, List.length_eq_zero_iff.1 h0⟩
  · refine .inr ⟨x, 0, cap, rfl, (Array.getElem?_eq_some_iff.1 hh).1, fun j n hj => ?_⟩
    have hjl : j < l.length := (List.getElem?_eq_some_iff.1 hj).1
    have hf : ∀ (l : List RN) (j : Nat) (n : RN), l[j]? = some n → (flatRN l)[j * 2]? = some (.string n.1) ∧ (flatRN l)[j * 2 + 1]? = some (.int .i64 n.2) := by
      intro l
      induction l with
      | nil => intro j n h; cases h
      | cons a l ih =>
        intro j n h
        cases j with
        | zero => cases h; exact ⟨rfl, rfl⟩
        | succ j =>
          have := ih j n (by simpa using h)
          have e : flatRN (a :: l) = .string a.1 :: .int .i64 a.2 :: flatRN l := rfl
          rw [e, show (j + 1) * 2 = j * 2 + 1 + 1 by omega]
          simpa using this
    obtain ⟨f1, f2⟩ := hf l j n hj
    rw [← h4, List.getElem?_take_of_lt (by omega)] at f1 f2
    constructor
    · rw [cell_of_row w x (0 + j * 2) cur _ _ hh, ← Array.getElem?_toList, Nat.zero_add]; exact f1
    · rw [cell_of_row w x (0 + j * 2 + 1) cur _ _ hh, ← Array.getElem?_toList, Nat.zero_add]; exact f2
/-- What an append of one name wants, and what it gives. -/
theorem OwnRN.laid (h : OwnRN base w v l) (x : RN) : (w.alloc (.cells #[.string x.1, .int .i64 x.2] 73)).ownsRow base 73 2 v l.length (flatRN l) ∧
    ∀ j u, [Value.string x.1, .int .i64 x.2][j]? = some u → (w.alloc (.cells #[.string x.1, .int .i64 x.2] 73)).cell? ((⟨w.heap.size, 0, none⟩ : Addr).add j) = some u :=
  ⟨World.ownsRow.alloc h _, fun j u hu => by rw [Addr.add_mid, Nat.zero_add]; exact (Blk.new w 73 [.string x.1, .int .i64 x.2]).cell hu⟩
theorem OwnRN.snoc {x : RN} (h : w'.ownsRow base 73 2 v (l.length + 1) (flatRN l ++ [.string x.1, .int .i64 x.2])) : OwnRN base w' v (l ++ [x]) := by
  unfold OwnRN; rw [flatRN_snoc, List.length_append]; exact h
end
set_option maxRecDepth 100000 in
set_option maxHeartbeats 1000000 in
theorem refWith_any (v : Value) (l : List RN) (n : RN) (w : World) (h : RNames w v l) (hl : l.length < 10000) :
    Calls Try.prog 57 #[v, .agg #[.string n.1, .int .i64 n.2]] w fun e w' => ∃ v', e = .returned v' ∧ OwnRN w.heap.size w' v' (withR l n) ∧ Below w.heap.size w w' := by
  obtain ⟨va, vc, rfl⟩ := h.slice
  obtain ⟨ns, nf⟩ := n
  have HH := Lib.hid h
  clear h
  obtain ⟨i0, hi, hz0, hz1, hz2⟩ := info_parts rnInfo
  have HI0 := Lib.hid hi
  have HZ0 := Lib.hid hz0
  have HZ1 := Lib.hid hz1
  have HZ2 := Lib.hid hz2
  clear hi hz0 hz1 hz2
  go_enter Try.func57, Try.ntmps57
  go_wp2_with fail
  refine wp_world fun wB hwB => ?_
  have hBB : Below w.heap.size w wB := by rw [hwB]; exact (Below.refl _ _).alloc (Nat.le_refl _) _
  have hKB : Blk wB w.heap.size 73 [.string ns, .int .i64 nf] := by rw [hwB]; exact Blk.new w 73 [.string ns, .int .i64 nf]
  have hlt0 : w.heap.size < wB.heap.size := hKB.lt
  have HRN := Lib.hid (HH.out.below hBB)
  have HBB := Lib.hid hBB
  have HKB := Lib.hid hKB
  have HL0 := Lib.hid hlt0
  have hd0 : Hid (withGo (ns, nf) l (decide (nf < 0)) = withR l (ns, nf)) := rfl
  clear hwB hBB hKB hlt0
  generalize decide (nf < 0) = d0 at *
  go_loopw [5, 6, 13] (fun s5 s6 s13 wr => ∃ (i : Nat) (out : List RN) (d : Bool), i ≤ l.length ∧ s13 = .int .i64 i ∧ s6 = .bool d ∧ OwnRN wB.heap.size wr s5 out ∧ out.length ≤ 2 * i ∧ out ++ withGo (ns, nf) (l.drop i) d = withR l (ns, nf) ∧ Below wB.heap.size wB wr)
    (fun _ _ s13 _ => l.length - (intOf s13).toNat)
  case atStart => exact ⟨0, [], d0, Nat.zero_le _, rfl, rfl, World.ownsRow_nil _ _ _ _, Nat.le_refl _, hd0, Below.refl _ _⟩
  case round =>
    clear hd0
    obtain ⟨i, out, d, hi, rfl, rfl, hown, hol, hwr, hBr⟩ := hrel
    obtain ⟨oa, oc, rfl⟩ := hown.slice
    have HW := Lib.hid hwr
    have HO := Lib.hid hown
    have HB := Lib.hid hBr
    clear hwr hown hBr
    by_cases hlt : i < l.length
    · have li : (i : Int) < l.length := by omega
      rcases HRN.out with ⟨_, h0⟩ | ⟨b, o, cap, hv, hb, hc⟩
      · subst h0; simp at hlt
      cases hv
      have hgd := withGo_drop (ns, nf) l d hlt
      have hcc := hc i _ (List.getElem?_eq_getElem hlt)
      generalize l[i] = x at hcc hgd
      obtain ⟨xs, xf⟩ := x
      simp only at hcc hgd
      have HCW : Hid (∀ W, Below wB.heap.size wB W → W.cell? ⟨b, o + i * 2, none⟩ = some (.string xs) ∧ W.cell? ⟨b, o + i * 2 + 1, none⟩ = some (.int .i64 xf) ∧ W.cell? ⟨w.heap.size, 0, none⟩ = some (.string ns) ∧ W.cell? ⟨w.heap.size, 1, none⟩ = some (.int .i64 nf)) := fun W hW =>
        ⟨by rw [World.cell?_of_block (w := wB) (hW.block b hb)]; exact hcc.1, by rw [World.cell?_of_block (w := wB) (hW.block b hb)]; exact hcc.2,
          by rw [World.cell?_of_block (w := wB) (hW.block w.heap.size HL0.out)]; exact HKB.out.cell rfl, by rw [World.cell?_of_block (w := wB) (hW.block w.heap.size HL0.out)]; exact HKB.out.cell rfl⟩
      have HGD := Lib.hid hgd
      have HLEN := Lib.hid (show out.length ≤ 20000 by omega)
      clear hgd hb hc hcc
      obtain ⟨c1, c2, k1, k2⟩ := HCW.out wr HB.out
      go_upto_region 6 with fail
      go_quiet (fail)
      generalize hwA : wr.drewN nq = wA
      have HOA : Hid (OwnRN wB.heap.size wA (.slice oa out.length oc) out) := by rw [← hwA]; exact HO.out
      have HBA : Hid (Below wB.heap.size wB wA) := by rw [← hwA]; exact Below.drewN HB.out _
      clear hwA c1 c2 k1 k2 HO HB
      by_cases he : xs = ns
      · have he' : (xs.toList == ns.toList) = true := by rw [he]; simp
        have hn : out ++ withGo (ns, nf) (l.drop (i + 1)) d = withR l (ns, nf) := by rw [← HW.out, HGD.out, if_pos he]
        have HN := Lib.hid hn
        clear hn
        simp only [he']
        clear he he'
        go_wp2_with fail
        go_roundw
        case rel => exact ⟨i + 1, out, d, by omega, by go_num, rfl, HOA.out, by omega, HN.out, HBA.out⟩
        case measure => simp [intOf]; omega
      · have he' : (xs.toList == ns.toList) = false := str_ne' he
        simp only [he']
        obtain ⟨c1, c2, k1, k2⟩ := HCW.out wA HBA.out
        cases d
        · go_upto_region 7 with fail
          go_quiet (fail)
          generalize hwC : wA.drewN nq = wC
          have HOC : Hid (OwnRN wB.heap.size wC (.slice oa out.length oc) out) := by rw [← hwC]; exact HOA.out
          have HBC : Hid (Below wB.heap.size wB wC) := by rw [← hwC]; exact Below.drewN HBA.out _
          clear hwC HOA HBA c1 c2 k1 k2
          obtain ⟨c1, c2, k1, k2⟩ := HCW.out wC HBC.out
          by_cases hless : Op.bytesLess ns.toList xs.toList = true
          · have hn : (out ++ [(ns, nf)]) ++ [(xs, xf)] ++ withGo (ns, nf) (l.drop (i + 1)) true = withR l (ns, nf) := by rw [← HW.out, HGD.out, if_neg he, if_pos ⟨rfl, hless⟩]; simp
            have HN := Lib.hid hn
            simp only [hless]
            clear he he' hn hless
            obtain ⟨hla, hlb⟩ := HOC.out.laid (ns, nf)
            have HLA := Lib.hid hla
            have HLB := Lib.hid hlb
            have hbs : wB.heap.size ≤ (wC.alloc (.cells #[.string ns, .int .i64 nf] 73)).heap.size := by have := HBC.out.size; simp; omega
            clear hla hlb
            go_wp2_with (with_reducible refine wpList_append_own _ rfl (.tmp 36) (.tmp 38) 29 rfl wB.heap.size 73 i0 (.agg #[.string ⟨#[]⟩, .int .i64 0]) 2 24 Try.underlying29 HI0.out HZ0.out HZ1.out HZ2.out rfl (by decide) (.slice oa out.length oc) out.length (flatRN out) ?_ HLA.out ⟨wC.heap.size, 0, none⟩ 1 1 [.string ns, .int .i64 nf] ?_ rfl HLB.out ?_ ?_ ?_ hbs ?_)
            case refine_3 => exact ⟨rfl, rfl⟩
            case refine_4 => unfold maxLen; have := HLEN.out; omega
            case refine_5 => have := HLEN.out; omega
            intro vD wD hown2 hg2 _
            have hOD := OwnRN.snoc (x := (ns, nf)) hown2
            obtain ⟨da, dc, rfl⟩ := hOD.slice
            have HBD : Hid (Below wB.heap.size wB wD) := ((HBC.out.alloc HBC.out.size _).grown hg2 hbs HOC.out.own)
            have HOD := Lib.hid hOD
            clear hown2 hg2 hOD c1 c2 k1 k2 hbs HLA HLB HOC HBC
            obtain ⟨R, hR⟩ : ∃ R : List RN, R = out ++ [(ns, nf)] := ⟨_, rfl⟩
            have HRL := Lib.hid (show R.length ≤ 20001 ∧ R.length = out.length + 1 by rw [hR]; have := HLEN.out; simp; omega)
            have HNR : Hid (R ++ [(xs, xf)] ++ withGo (ns, nf) (l.drop (i + 1)) true = withR l (ns, nf)) := by rw [hR]; exact HN.out
            have HOR : Hid (OwnRN wB.heap.size wD (.slice da R.length dc) R) := by rw [hR]; exact HOD.out
            rw [← hR]
            clear hR HOD HN
            obtain ⟨c1, c2, k1, k2⟩ := HCW.out wD HBD.out
            obtain ⟨hla, hlb⟩ := HOR.out.laid (xs, xf)
            have HLA := Lib.hid hla
            have HLB := Lib.hid hlb
            have hbs : wB.heap.size ≤ (wD.alloc (.cells #[.string xs, .int .i64 xf] 73)).heap.size := by have := HBD.out.size; simp; omega
            clear hla hlb
            go_wp2_with (with_reducible refine wpList_append_own _ rfl (.tmp 40) (.tmp 45) 29 rfl wB.heap.size 73 i0 (.agg #[.string ⟨#[]⟩, .int .i64 0]) 2 24 Try.underlying29 HI0.out HZ0.out HZ1.out HZ2.out rfl (by decide) (.slice da R.length dc) R.length (flatRN R) ?_ HLA.out ⟨wD.heap.size, 0, none⟩ 1 1 [.string xs, .int .i64 xf] ?_ rfl HLB.out ?_ ?_ ?_ hbs ?_)
            case refine_3 => exact ⟨rfl, rfl⟩
            case refine_4 => unfold maxLen; have := HRL.out; omega
            case refine_5 => have := HRL.out; omega
            intro vE wE hown2 hg2 _
            have hOE := OwnRN.snoc (x := (xs, xf)) hown2
            have HBE : Hid (Below wB.heap.size wB wE) := ((HBD.out.alloc HBD.out.size _).grown hg2 hbs HOR.out.own)
            have HOE := Lib.hid hOE
            clear hown2 hg2 hOE c1 c2 k1 k2 hbs HLA HLB HOR HBD
            go_wp2_with fail
            go_roundw
            case rel => exact ⟨i + 1, R ++ [(xs, xf)], true, by omega, by go_num, rfl, HOE.out, by have := HRL.out.2; simp; omega, HNR.out, HBE.out⟩
            case measure => simp [intOf]; omega
          · have hless' : Op.bytesLess ns.toList xs.toList = false := by simpa using hless
            have hn : out ++ [(xs, xf)] ++ withGo (ns, nf) (l.drop (i + 1)) false = withR l (ns, nf) := by rw [← HW.out, HGD.out, if_neg he, if_neg (fun h => hless h.2)]; simp
            have HN := Lib.hid hn
            simp only [hless']
            clear he he' hn hless hless'
            obtain ⟨hla, hlb⟩ := HOC.out.laid (xs, xf)
            have HLA := Lib.hid hla
            have HLB := Lib.hid hlb
            have hbs : wB.heap.size ≤ (wC.alloc (.cells #[.string xs, .int .i64 xf] 73)).heap.size := by have := HBC.out.size; simp; omega
            clear hla hlb
            go_wp2_with (with_reducible refine wpList_append_own _ rfl (.tmp 40) (.tmp 45) 29 rfl wB.heap.size 73 i0 (.agg #[.string ⟨#[]⟩, .int .i64 0]) 2 24 Try.underlying29 HI0.out HZ0.out HZ1.out HZ2.out rfl (by decide) (.slice oa out.length oc) out.length (flatRN out) ?_ HLA.out ⟨wC.heap.size, 0, none⟩ 1 1 [.string xs, .int .i64 xf] ?_ rfl HLB.out ?_ ?_ ?_ hbs ?_)
            case refine_3 => exact ⟨rfl, rfl⟩
            case refine_4 => unfold maxLen; have := HLEN.out; omega
            case refine_5 => have := HLEN.out; omega
            intro vE wE hown2 hg2 _
            have hOE := OwnRN.snoc (x := (xs, xf)) hown2
            have HBE : Hid (Below wB.heap.size wB wE) := ((HBC.out.alloc HBC.out.size _).grown hg2 hbs HOC.out.own)
            have HOE := Lib.hid hOE
            clear hown2 hg2 hOE c1 c2 k1 k2 hbs HLA HLB HOC HBC
            go_wp2_with fail
            go_roundw
            case rel => exact ⟨i + 1, out ++ [(xs, xf)], false, by omega, by go_num, rfl, HOE.out, by simp; omega, HN.out, HBE.out⟩
            case measure => simp [intOf]; omega
        · have hn : out ++ [(xs, xf)] ++ withGo (ns, nf) (l.drop (i + 1)) true = withR l (ns, nf) := by rw [← HW.out, HGD.out, if_neg he, if_neg (fun h => Bool.noConfusion h.1)]; simp
          have HN := Lib.hid hn
          clear he he' hn
          go_upto_region 7 with fail
          go_quiet (fail)
          generalize hwC : wA.drewN nq = wC
          have HOC : Hid (OwnRN wB.heap.size wC (.slice oa out.length oc) out) := by rw [← hwC]; exact HOA.out
          have HBC : Hid (Below wB.heap.size wB wC) := by rw [← hwC]; exact Below.drewN HBA.out _
          clear hwC HOA HBA c1 c2 k1 k2
          obtain ⟨c1, c2, k1, k2⟩ := HCW.out wC HBC.out
          obtain ⟨hla, hlb⟩ := HOC.out.laid (xs, xf)
          have HLA := Lib.hid hla
          have HLB := Lib.hid hlb
          have hbs : wB.heap.size ≤ (wC.alloc (.cells #[.string xs, .int .i64 xf] 73)).heap.size := by have := HBC.out.size; simp; omega
          clear hla hlb
          go_wp2_with (with_reducible refine wpList_append_own _ rfl (.tmp 40) (.tmp 45) 29 rfl wB.heap.size 73 i0 (.agg #[.string ⟨#[]⟩, .int .i64 0]) 2 24 Try.underlying29 HI0.out HZ0.out HZ1.out HZ2.out rfl (by decide) (.slice oa out.length oc) out.length (flatRN out) ?_ HLA.out ⟨wC.heap.size, 0, none⟩ 1 1 [.string xs, .int .i64 xf] ?_ rfl HLB.out ?_ ?_ ?_ hbs ?_)
          case refine_3 => exact ⟨rfl, rfl⟩
          case refine_4 => unfold maxLen; have := HLEN.out; omega
          case refine_5 => have := HLEN.out; omega
          intro vE wE hown2 hg2 _
          have hOE := OwnRN.snoc (x := (xs, xf)) hown2
          have HBE : Hid (Below wB.heap.size wB wE) := ((HBC.out.alloc HBC.out.size _).grown hg2 hbs HOC.out.own)
          have HOE := Lib.hid hOE
          clear hown2 hg2 hOE c1 c2 k1 k2 hbs HLA HLB HOC HBC
          go_wp2_with fail
          go_roundw
          case rel => exact ⟨i + 1, out ++ [(xs, xf)], true, by omega, by go_num, rfl, HOE.out, by simp; omega, HN.out, HBE.out⟩
          case measure => simp [intOf]; omega
    · have li : ¬ ((i : Int) < l.length) := by omega
      have hwl : out ++ withGo (ns, nf) [] d = withR l (ns, nf) := by rw [← HW.out, List.drop_of_length_le (by omega)]
      have HWL := Lib.hid hwl
      have HLEN := Lib.hid (show out.length ≤ 20000 by omega)
      have k1 : wr.cell? ⟨w.heap.size, 0, none⟩ = some (.string ns) := by rw [World.cell?_of_block (w := wB) (HB.out.block w.heap.size HL0.out)]; exact HKB.out.cell rfl
      have k2 : wr.cell? ⟨w.heap.size, 1, none⟩ = some (.int .i64 nf) := by rw [World.cell?_of_block (w := wB) (HB.out.block w.heap.size HL0.out)]; exact HKB.out.cell rfl
      clear hwl hol hi
      cases d
      · have HN : Hid (out ++ [(ns, nf)] = withR l (ns, nf)) := HWL.out
        obtain ⟨hla, hlb⟩ := HO.out.laid (ns, nf)
        have HLA := Lib.hid hla
        have HLB := Lib.hid hlb
        have hbs : wB.heap.size ≤ (wr.alloc (.cells #[.string ns, .int .i64 nf] 73)).heap.size := by have := HB.out.size; simp; omega
        clear hla hlb
        go_wp2_with (with_reducible refine wpList_append_own _ rfl (.tmp 50) (.tmp 52) 29 rfl wB.heap.size 73 i0 (.agg #[.string ⟨#[]⟩, .int .i64 0]) 2 24 Try.underlying29 HI0.out HZ0.out HZ1.out HZ2.out rfl (by decide) (.slice oa out.length oc) out.length (flatRN out) ?_ HLA.out ⟨wr.heap.size, 0, none⟩ 1 1 [.string ns, .int .i64 nf] ?_ rfl HLB.out ?_ ?_ ?_ hbs ?_)
        case refine_3 => exact ⟨rfl, rfl⟩
        case refine_4 => unfold maxLen; have := HLEN.out; omega
        case refine_5 => have := HLEN.out; omega
        intro vE wE hown2 hg2 _
        have hOE := OwnRN.snoc (x := (ns, nf)) hown2
        rw [HN.out] at hOE
        have HBE : Hid (Below wB.heap.size wB wE) := ((HB.out.alloc HB.out.size _).grown hg2 hbs HO.out.own)
        have HOE := Lib.hid hOE
        clear hown2 hg2 hOE k1 k2 hbs HLA HLB
        go_wp2_with fail
        go_ret
        exact ⟨_, rfl, OwnRN.lower HOE.out (Nat.le_of_lt HL0.out), HBB.out.trans (HBE.out.mono (Nat.le_of_lt HL0.out))⟩
      · have HN : Hid (out = withR l (ns, nf)) := by rw [← HWL.out]; show _ = out ++ []; simp
        go_wp2_with fail
        go_ret
        exact ⟨_, rfl, OwnRN.lower (by rw [← HN.out]; exact HO.out) (Nat.le_of_lt HL0.out), HBB.out.trans (HB.out.mono (Nat.le_of_lt HL0.out))⟩
end Go.Proofs.Ytpfbiijcmmkjlaa
